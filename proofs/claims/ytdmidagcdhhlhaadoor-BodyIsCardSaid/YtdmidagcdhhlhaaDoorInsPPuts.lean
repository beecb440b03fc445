/- Several parts in one text. -/
import Derived.Test.YtdmidagcdhhlhaaDoorLebTwo
import Derived.Test.YtdmidagcdhhlhaaDoorLebOne
import Derived.Test.YtdmidagcdhhlhaaDoorStabAll
import Derived.Lib.AppendZerosOnto
import Derived.Lib.SliceRun
import Derived.Test.YtdmidagcdhhlhaaDoorInsPSanes
/- slices.Grow of nil, slices.Concat of two lists of bytes: the library's own text, walked. -/
namespace Go.Proofs.YtdmidagcdhhlhaaDoor.Typ
open Go.RowKit
set_option maxRecDepth 100000
set_option maxHeartbeats 1000000

theorem run_zeros (w : World) (ty : TypeId) (n : Nat) (h0 : 0 < n) (hn : n ≤ 10000000) :
    (Builtin.append_ #[23, 3] ty #[.slice none 0 0, .int .i64 (n : Int)]).run Tryd.prog w =
      .ok (.slice (some ⟨w.heap.size, 0, none⟩) n (grownCap w n 0 5)) (w.drew.alloc (.cells ((#[] : Array Value) ++ Builtin.zeroCells (Value.int .u8 0).cells n ++ Builtin.zeroCells (Value.int .u8 0).cells (grownCap w n 0 5 - n)) 5)) := by
  obtain ⟨i0, hi, hz0, hz1, hz2⟩ := info_parts byte_info
  have h := Lib.run_append_grow_zeros (P := Tryd.prog) w 23 3 ty 5 i0 (.int .u8 0) .i64 .i64 Tryd.underlying23 Tryd.underlying3 hi hz0 none 0 0 [] (run_firstCells_none w.drew i0.size 0 0 0) n h0 (by rw [hz1]; omega) (by omega) (by omega) (by rw [hz2]; omega) (by rw [hz2]; exact growslice_fits (by omega) (by omega))
  rw [Nat.zero_add] at h
  exact h
/-- New bytes, none, with room. -/
theorem own_room (w : World) (c : Nat) (cs : Array Value) (hsz : cs.size = c) (hc : c ≤ maxLen) : Leb.Own (w.alloc (.cells cs 5)) w.heap.size (.slice (some ⟨w.heap.size, 0, none⟩) 0 c) [] :=
  ⟨⟨_, _, rfl⟩, by simp [Leb.vb], .inr ⟨_, _, _, rfl, Nat.le_refl _, heap_alloc_new w _, Nat.zero_le _, hc, by omega, by simp [Leb.vb]⟩⟩
theorem grow_nil (n : Nat) (w : World) (h0 : 0 < n) (hn : n ≤ 1000000) : Calls Tryd.prog 81 #[.slice none 0 0, .int .i64 (n : Int)] w (Leb.Laid w []) := by
  have hz := run_zeros w
  have hge := grownCap_ge w n 0 5
  have hm := grownCap_le_maxLen w n 0 5 (by unfold maxLen; omega)
  have t0 : decide ((n : Int) < 0) = false := by simp
  have t1 : decide ((0 : Int) < (n : Int)) = true := by simp; omega
  have HZ := Lib.hid (fun ty => run_zeros w ty n h0 (by omega))
  clear hz
  revert HZ
  generalize hG : grownCap w n 0 5 = G at *
  intro HZ
  clear hG
  go_enter Tryd.func81, Tryd.ntmps81
  go_wp2_with (at_builtin; refine Lib.wpList_append_run _ rfl _ _ _ _ rfl _ _ rfl rfl _ _ (HZ.out _) ?_)
  go_ret
  refine ⟨_, rfl, ?_, ((Below.refl _ _).alloc (Nat.le_refl _) _).drew⟩
  exact own_room w G _ (by simp [Builtin.zeroCells]; omega) hm
theorem concat_any (g : Nat) (A1 A2 : Option Addr) (c1 c2 : Nat) (l1 l2 : List Int) (w : World) (hX : w.cell? ⟨g, 0, none⟩ = some (.slice A1 l1.length c1)) (hY : w.cell? ⟨g, 1, none⟩ = some (.slice A2 l2.length c2)) (hg : g < w.heap.size)
    (h1 : Leb.Byt w w.heap.size A1 l1) (h2 : Leb.Byt w w.heap.size A2 l2) (hl1 : l1.length ≤ 100000) (hl2 : l2.length ≤ 100000) (hpos : 0 < l1.length + l2.length) :
    Calls Tryd.prog 55 #[.slice (some ⟨g, 0, none⟩) 2 2] w (Leb.Laid w (l1 ++ l2)) := by
  have H1 := Lib.hid h1
  have H2 := Lib.hid h2
  have HG := Lib.hid (grow_nil (l1.length + l2.length) w hpos (by omega))
  have HX := Lib.hid (fun W (hW : Below w.heap.size w W) => (hW.cell (p := ⟨g, 0, none⟩) hg).trans hX)
  have HY := Lib.hid (fun W (hW : Below w.heap.size w W) => (hW.cell (p := ⟨g, 1, none⟩) hg).trans hY)
  have t0 : decide ((l1.length : Int) < 0) = false := by simp
  have t1 : decide ((l1.length : Int) + (l2.length : Int) < 0) = false := by simp; omega
  have hw : IntKind.i64.wrap ((l1.length : Int) + (l2.length : Int)) = (l1.length : Int) + (l2.length : Int) := IntWalk.i64_in _ (by omega)
  clear h1 h2
  go_enter Tryd.func55, Tryd.ntmps55
  go_wp2_with fail
  go_loop [3, 11] (fun s i => (i = .int .i64 0 ∧ s = .int .i64 0) ∨ (i = .int .i64 1 ∧ s = .int .i64 (l1.length : Int)) ∨ (i = .int .i64 2 ∧ s = .int .i64 ((l1.length : Int) + (l2.length : Int)))) (fun _ i => 2 - (intOf i).toNat)
  case atStart => exact .inl ⟨rfl, rfl⟩
  case round =>
    rcases hrel with ⟨rfl, rfl⟩ | ⟨rfl, rfl⟩ | ⟨rfl, rfl⟩
    · go_wp2_with fail
      go_round
      case rel => exact .inr (.inl ⟨rfl, rfl⟩)
      case measure => simp [intOf]
    · go_wp2_with fail
      go_round
      case rel => exact .inr (.inr ⟨rfl, rfl⟩)
      case measure => simp [intOf]
    · clear hX hY
      go_wp2_with fail
      refine HG.out.mono ?_
      rintro e w1 ⟨v1, rfl, ho1, hb1⟩
      have HO1 := Lib.hid ho1
      have HB1 := Lib.hid hb1
      clear ho1 hb1
      go_wp2_with fail
      go_loopw [6, 27] (fun v i wr => Below w.heap.size w wr ∧ ((i = .int .i64 0 ∧ Leb.Own wr w.heap.size v []) ∨ (i = .int .i64 1 ∧ Leb.Own wr w.heap.size v l1) ∨ (i = .int .i64 2 ∧ Leb.Own wr w.heap.size v (l1 ++ l2)))) (fun _ i _ => 2 - (intOf i).toNat)
      case atStart => exact ⟨HB1.out, .inl ⟨rfl, HO1.out⟩⟩
      case round =>
        obtain ⟨hbel, hrel⟩ := hrel
        have hX := HX.out _ hbel
        have hY := HY.out _ hbel
        have HBel := Lib.hid hbel
        have hsz : w.heap.size ≤ wr.heap.size := hbel.size
        clear hbel
        rcases hrel with ⟨rfl, ho⟩ | ⟨rfl, ho⟩ | ⟨rfl, ho⟩
        · have HO := Lib.hid ho
          clear ho
          go_wp2_with (at_builtin; refine Leb.wp_bytes wr rfl (.tmp 31) (.tmp 32) rfl w.heap.size w.heap.size _ [] l1 rfl HO.out A1 c1 rfl (H1.out.keep HBel.out) (by simp; omega) hsz ?_; intro v2 w2 ho2 hb2)
          go_roundw
          case rel => exact ⟨HBel.out.trans hb2, .inr (.inl ⟨rfl, ho2⟩)⟩
          case measure => simp [intOf]
        · have HO := Lib.hid ho
          clear ho
          go_wp2_with (at_builtin; refine Leb.wp_bytes wr rfl (.tmp 31) (.tmp 32) rfl w.heap.size w.heap.size _ l1 l2 rfl HO.out A2 c2 rfl (H2.out.keep HBel.out) (by omega) hsz ?_; intro v2 w2 ho2 hb2)
          go_roundw
          case rel => exact ⟨HBel.out.trans hb2, .inr (.inr ⟨rfl, ho2⟩)⟩
          case measure => simp [intOf]
        · have HO := Lib.hid ho
          clear ho
          go_wp2_with fail
          go_ret
          exact ⟨_, rfl, HO.out, HBel.out⟩
end Go.Proofs.YtdmidagcdhhlhaaDoor.Typ

/- What the program lays of an instruction, kind by kind, A. -/
namespace Go.Proofs.YtdmidagcdhhlhaaDoor.Ins
open Go.RowKit Ints Typ
set_option maxRecDepth 100000
set_option maxHeartbeats 2000000
set_option linter.unusedVariables false

theorem own_slI {w : World} {B : Nat} {v : Value} {l : List Int} (h : Leb.Own w B v l) : Sl w v l := OwnB.sl (show OwnB w B v l from h.2)
/-- Bytes that lie somewhere: told. -/
def SlTold (L : List Int) (w : World) (en : Ending) (w' : World) : Prop := ∃ v, en = .returned v ∧ Sl w' v L ∧ Below w.heap.size w w'
/-- New bytes: one. -/
theorem own_one (w : World) (x : Int) (g : Nat) (hg : g = w.heap.size) : Leb.Own (w.alloc (.cells #[.int .u8 x] 5)) g (.slice (some ⟨g, 0, none⟩) 1 1) [x] := by
  subst hg
  exact ⟨⟨_, _, rfl⟩, by simp [Leb.vb], .inr ⟨_, _, _, rfl, Nat.le_refl _, heap_alloc_new w _, Nat.le_refl _, by simp [maxLen], by simp, by simp [Leb.vb]⟩⟩
theorem rbyte_core (a y : Int) (w : World) (b : Bool) (h : (a == 0) = b) (hy : (bif b then 64 else IntKind.u8.wrap a) = y) : Calls Tryd.prog 82 #[.int .i64 a] w fun en w' => en = .returned (.int .u8 y) ∧ w = w' := by
  cases b with
  | true =>
    obtain rfl : (64 : Int) = y := hy
    go_enter Tryd.func82, Tryd.ntmps82
    go_wp2_with fail
    go_ret
    exact ⟨rfl, rfl⟩
  | false =>
    have hy : IntKind.u8.wrap a = y := hy
    go_enter Tryd.func82, Tryd.ntmps82
    go_wp2_with fail
    go_ret
    exact ⟨rfl, rfl⟩
theorem plaid_1 (op A B K : Int) (P : Option Addr) (n c : Nat) (w : World) 
    (wo : IntKind.u8.wrap op = op)
    (hK : ∀ W, Below w.heap.size w W → Calls Tryd.prog 50 #[.int .i64 op] W fun en w' => en = .returned (.int .i64 1) ∧ Below W.heap.size W w') :
    Calls Tryd.prog 56 #[.agg #[.int .i64 op, .int .i64 A, .int .i64 B, .int .u64 K, .slice P n c]] w (SlTold ([op]) w) := by
  have HK := Lib.hid hK
  clear hK
  have HW := Lib.hid (((Below.refl w.heap.size w).alloc (Nat.le_refl _) (.cells #[.int .i64 op, .int .i64 A, .int .i64 B, .int .u64 K, .slice P n c] 50)).alloc (by simp) (.cells #[.int .u8 op] 5))
  have HI := Lib.hid ((InAt.at_ w w.heap.size op A B K (.slice P n c) 50 rfl).keep ((Below.refl _ _).alloc (Nat.le_refl _) (.cells #[.int .u8 op] 5)))
  have HO := Lib.hid (own_one (w.alloc (.cells #[.int .i64 op, .int .i64 A, .int .i64 B, .int .u64 K, .slice P n c] 50)) op (w.heap.size + 1) (by simp))
  obtain ⟨i0, ic0, ic1, ic2, ic3, ic4, if0, if1, if2, if3, if4⟩ := HI.out
  go_enter Tryd.func56, Tryd.ntmps56
  go_wp2_with fail
  refine (HK.out _ HW.out).mono ?_
  rintro en w2 ⟨rfl, hb⟩
  have HI := Lib.hid (HI.out.keep hb)
  have HO := Lib.hid (HO.out.keep hb)
  have HW := Lib.hid (HW.out.trans (hb.mono HW.out.size))
  clear hb
  clear i0 ic0 ic1 ic2 ic3 ic4 if0 if1 if2 if3 if4
  obtain ⟨i0, ic0, ic1, ic2, ic3, ic4, if0, if1, if2, if3, if4⟩ := HI.out
  go_wp2_with fail
  have HS := own_slI HO.out
  exact bodyPost_ret (v := .slice (some ⟨w.heap.size + 1, 0, none⟩) 1 1) (by simp [results, Tryd.results56, go_sem]) rfl ⟨_, rfl, HS, HW.out⟩
theorem plaid_7 (op A B K : Int) (P : Option Addr) (n c : Nat) (w : World) 
    (wo : IntKind.u8.wrap op = op)
    (hK : ∀ W, Below w.heap.size w W → Calls Tryd.prog 50 #[.int .i64 op] W fun en w' => en = .returned (.int .i64 7) ∧ Below W.heap.size W w') :
    Calls Tryd.prog 56 #[.agg #[.int .i64 op, .int .i64 A, .int .i64 B, .int .u64 K, .slice P n c]] w (SlTold ([op] ++ [0]) w) := by
  have HK := Lib.hid hK
  clear hK
  have HW := Lib.hid (((Below.refl w.heap.size w).alloc (Nat.le_refl _) (.cells #[.int .i64 op, .int .i64 A, .int .i64 B, .int .u64 K, .slice P n c] 50)).alloc (by simp) (.cells #[.int .u8 op] 5))
  have HI := Lib.hid ((InAt.at_ w w.heap.size op A B K (.slice P n c) 50 rfl).keep ((Below.refl _ _).alloc (Nat.le_refl _) (.cells #[.int .u8 op] 5)))
  have HO := Lib.hid (own_one (w.alloc (.cells #[.int .i64 op, .int .i64 A, .int .i64 B, .int .u64 K, .slice P n c] 50)) op (w.heap.size + 1) (by simp))
  obtain ⟨i0, ic0, ic1, ic2, ic3, ic4, if0, if1, if2, if3, if4⟩ := HI.out
  go_enter Tryd.func56, Tryd.ntmps56
  go_wp2_with fail
  refine (HK.out _ HW.out).mono ?_
  rintro en w2 ⟨rfl, hb⟩
  have HI := Lib.hid (HI.out.keep hb)
  have HO := Lib.hid (HO.out.keep hb)
  have HW := Lib.hid (HW.out.trans (hb.mono HW.out.size))
  clear hb
  clear i0 ic0 ic1 ic2 ic3 ic4 if0 if1 if2 if3 if4
  obtain ⟨i0, ic0, ic1, ic2, ic3, ic4, if0, if1, if2, if3, if4⟩ := HI.out
  have HLn : Hid (([op] : List Int).length ≤ 10000000) := by show _ ≤ _; simp
  have HLo : Hid (w.heap.size + 1 ≤ w2.heap.size) := by show _ ≤ _; have := HI.out.lt; omega
  have HLw : Hid (w.heap.size ≤ w.heap.size + 1) := Nat.le_succ _
  go_wp2_with (at_builtin; refine Leb.wp_byte w2 rfl (.tmp 75) (.tmp 76) rfl _ _ ([op]) (0) rfl HO.out rfl (by have := HLn.out; omega) (by first | exact HLo.out | exact Nat.le_refl _) ?_; intro v9 w9 ho9 hb9; have HO9 := Lib.hid ho9; have HW := Lib.hid (HW.out.trans (hb9.mono HLw.out)); obtain ⟨⟨g9, d9, rfl⟩, _⟩ := id ho9; clear ho9 hb9; go_wp2_with fail)
  have HS := own_slI HO9.out
  exact bodyPost_ret (v := .slice (some ⟨g9, 0, none⟩) ([op] ++ [0]).length d9) (by simp [results, Tryd.results56, go_sem]) rfl ⟨_, rfl, HS, HW.out⟩
theorem plaid_2 (op A B K : Int) (P : Option Addr) (n c : Nat) (w : World) (y : Int)
    (wo : IntKind.u8.wrap op = op)
    (hK : ∀ W, Below w.heap.size w W → Calls Tryd.prog 50 #[.int .i64 op] W fun en w' => en = .returned (.int .i64 2) ∧ Below W.heap.size W w')
    (hR : ∀ W, Calls Tryd.prog 82 #[.int .i64 A] W fun en w' => en = .returned (.int .u8 y) ∧ W = w') :
    Calls Tryd.prog 56 #[.agg #[.int .i64 op, .int .i64 A, .int .i64 B, .int .u64 K, .slice P n c]] w (SlTold ([op] ++ [y]) w) := by
  have HK := Lib.hid hK
  have HR := Lib.hid hR
  clear hK hR
  have HW := Lib.hid (((Below.refl w.heap.size w).alloc (Nat.le_refl _) (.cells #[.int .i64 op, .int .i64 A, .int .i64 B, .int .u64 K, .slice P n c] 50)).alloc (by simp) (.cells #[.int .u8 op] 5))
  have HI := Lib.hid ((InAt.at_ w w.heap.size op A B K (.slice P n c) 50 rfl).keep ((Below.refl _ _).alloc (Nat.le_refl _) (.cells #[.int .u8 op] 5)))
  have HO := Lib.hid (own_one (w.alloc (.cells #[.int .i64 op, .int .i64 A, .int .i64 B, .int .u64 K, .slice P n c] 50)) op (w.heap.size + 1) (by simp))
  obtain ⟨i0, ic0, ic1, ic2, ic3, ic4, if0, if1, if2, if3, if4⟩ := HI.out
  go_enter Tryd.func56, Tryd.ntmps56
  go_wp2_with fail
  refine (HK.out _ HW.out).mono ?_
  rintro en w2 ⟨rfl, hb⟩
  have HI := Lib.hid (HI.out.keep hb)
  have HO := Lib.hid (HO.out.keep hb)
  have HW := Lib.hid (HW.out.trans (hb.mono HW.out.size))
  clear hb
  clear i0 ic0 ic1 ic2 ic3 ic4 if0 if1 if2 if3 if4
  obtain ⟨i0, ic0, ic1, ic2, ic3, ic4, if0, if1, if2, if3, if4⟩ := HI.out
  go_wp2_with fail
  refine (HR.out _).mono ?_
  rintro en wr ⟨rfl, rfl⟩
  have HLn : Hid (([op] : List Int).length ≤ 10000000) := by show _ ≤ _; simp
  have HLo : Hid (w.heap.size + 1 ≤ w2.heap.size) := by show _ ≤ _; have := HI.out.lt; omega
  have HLw : Hid (w.heap.size ≤ w.heap.size + 1) := Nat.le_succ _
  go_wp2_with (at_builtin; refine Leb.wp_byte w2 rfl (.tmp 15) (.tmp 19) rfl _ _ ([op]) (y) rfl HO.out rfl (by have := HLn.out; omega) (by first | exact HLo.out | exact Nat.le_refl _) ?_; intro v9 w9 ho9 hb9; have HO9 := Lib.hid ho9; have HW := Lib.hid (HW.out.trans (hb9.mono HLw.out)); obtain ⟨⟨g9, d9, rfl⟩, _⟩ := id ho9; clear ho9 hb9; go_wp2_with fail)
  have HS := own_slI HO9.out
  exact bodyPost_ret (v := .slice (some ⟨g9, 0, none⟩) ([op] ++ [y]).length d9) (by simp [results, Tryd.results56, go_sem]) rfl ⟨_, rfl, HS, HW.out⟩
theorem plaid_3 (op A B K : Int) (P : Option Addr) (n c : Nat) (w : World) (L1 : List Int)
    (wo : IntKind.u8.wrap op = op)
    (hK : ∀ W, Below w.heap.size w W → Calls Tryd.prog 50 #[.int .i64 op] W fun en w' => en = .returned (.int .i64 3) ∧ Below W.heap.size W w')
    (wa : IntKind.u64.wrap A = A)
    (h1 : ∀ W v, Sl W v [op] → Calls Tryd.prog 83 #[v, .int .u64 A] W (Leb.Laid W L1)) :
    Calls Tryd.prog 56 #[.agg #[.int .i64 op, .int .i64 A, .int .i64 B, .int .u64 K, .slice P n c]] w (SlTold (L1) w) := by
  have HK := Lib.hid hK
  have H1 := Lib.hid h1
  clear hK h1
  have HW := Lib.hid (((Below.refl w.heap.size w).alloc (Nat.le_refl _) (.cells #[.int .i64 op, .int .i64 A, .int .i64 B, .int .u64 K, .slice P n c] 50)).alloc (by simp) (.cells #[.int .u8 op] 5))
  have HI := Lib.hid ((InAt.at_ w w.heap.size op A B K (.slice P n c) 50 rfl).keep ((Below.refl _ _).alloc (Nat.le_refl _) (.cells #[.int .u8 op] 5)))
  have HO := Lib.hid (own_one (w.alloc (.cells #[.int .i64 op, .int .i64 A, .int .i64 B, .int .u64 K, .slice P n c] 50)) op (w.heap.size + 1) (by simp))
  obtain ⟨i0, ic0, ic1, ic2, ic3, ic4, if0, if1, if2, if3, if4⟩ := HI.out
  go_enter Tryd.func56, Tryd.ntmps56
  go_wp2_with fail
  refine (HK.out _ HW.out).mono ?_
  rintro en w2 ⟨rfl, hb⟩
  have HI := Lib.hid (HI.out.keep hb)
  have HO := Lib.hid (HO.out.keep hb)
  have HW := Lib.hid (HW.out.trans (hb.mono HW.out.size))
  clear hb
  clear i0 ic0 ic1 ic2 ic3 ic4 if0 if1 if2 if3 if4
  obtain ⟨i0, ic0, ic1, ic2, ic3, ic4, if0, if1, if2, if3, if4⟩ := HI.out
  go_wp2_with fail
  refine (H1.out _ _ (own_slI HO.out)).mono ?_
  rintro en w3 ⟨v3, rfl, ho, hb⟩
  have HO := Lib.hid ho
  clear ho
  have HI := Lib.hid (HI.out.keep hb)
  have HW := Lib.hid (HW.out.trans (hb.mono HW.out.size))
  clear hb
  clear i0 ic0 ic1 ic2 ic3 ic4 if0 if1 if2 if3 if4
  obtain ⟨i0, ic0, ic1, ic2, ic3, ic4, if0, if1, if2, if3, if4⟩ := HI.out
  obtain ⟨⟨g3, d3, rfl⟩, _⟩ := id HO.out
  go_wp2_with fail
  have HS := own_slI HO.out
  exact bodyPost_ret (v := .slice (some ⟨g3, 0, none⟩) L1.length d3) (by simp [results, Tryd.results56, go_sem]) rfl ⟨_, rfl, HS, HW.out⟩
theorem plaid_5 (op A B K : Int) (P : Option Addr) (n c : Nat) (w : World) (L1 : List Int)
    (wo : IntKind.u8.wrap op = op)
    (hK : ∀ W, Below w.heap.size w W → Calls Tryd.prog 50 #[.int .i64 op] W fun en w' => en = .returned (.int .i64 5) ∧ Below W.heap.size W w')
    (wa : IntKind.u64.wrap A = A)
    (hL : L1.length ≤ 10000)
    (h1 : ∀ W v, Sl W v [op] → Calls Tryd.prog 83 #[v, .int .u64 A] W (Leb.Laid W L1)) :
    Calls Tryd.prog 56 #[.agg #[.int .i64 op, .int .i64 A, .int .i64 B, .int .u64 K, .slice P n c]] w (SlTold (L1 ++ [0]) w) := by
  have HK := Lib.hid hK
  have HL := Lib.hid hL
  have H1 := Lib.hid h1
  clear hK hL h1
  have HW := Lib.hid (((Below.refl w.heap.size w).alloc (Nat.le_refl _) (.cells #[.int .i64 op, .int .i64 A, .int .i64 B, .int .u64 K, .slice P n c] 50)).alloc (by simp) (.cells #[.int .u8 op] 5))
  have HI := Lib.hid ((InAt.at_ w w.heap.size op A B K (.slice P n c) 50 rfl).keep ((Below.refl _ _).alloc (Nat.le_refl _) (.cells #[.int .u8 op] 5)))
  have HO := Lib.hid (own_one (w.alloc (.cells #[.int .i64 op, .int .i64 A, .int .i64 B, .int .u64 K, .slice P n c] 50)) op (w.heap.size + 1) (by simp))
  obtain ⟨i0, ic0, ic1, ic2, ic3, ic4, if0, if1, if2, if3, if4⟩ := HI.out
  go_enter Tryd.func56, Tryd.ntmps56
  go_wp2_with fail
  refine (HK.out _ HW.out).mono ?_
  rintro en w2 ⟨rfl, hb⟩
  have HI := Lib.hid (HI.out.keep hb)
  have HO := Lib.hid (HO.out.keep hb)
  have HW := Lib.hid (HW.out.trans (hb.mono HW.out.size))
  clear hb
  clear i0 ic0 ic1 ic2 ic3 ic4 if0 if1 if2 if3 if4
  obtain ⟨i0, ic0, ic1, ic2, ic3, ic4, if0, if1, if2, if3, if4⟩ := HI.out
  go_wp2_with fail
  refine (H1.out _ _ (own_slI HO.out)).mono ?_
  rintro en w3 ⟨v3, rfl, ho, hb⟩
  have HLq : Hid (w.heap.size ≤ w2.heap.size) := HW.out.size
  have HB2 := Lib.hid hb
  have HO := Lib.hid ho
  clear ho
  have HI := Lib.hid (HI.out.keep hb)
  have HW := Lib.hid (HW.out.trans (hb.mono HW.out.size))
  clear hb
  clear i0 ic0 ic1 ic2 ic3 ic4 if0 if1 if2 if3 if4
  obtain ⟨i0, ic0, ic1, ic2, ic3, ic4, if0, if1, if2, if3, if4⟩ := HI.out
  obtain ⟨⟨g3, d3, rfl⟩, _⟩ := id HO.out
  have HLn : Hid (L1.length ≤ 10000000) := by show _ ≤ _; have := HL.out; omega
  have HLo : Hid (w2.heap.size ≤ w3.heap.size) := HB2.out.size
  have HLw : Hid (w.heap.size ≤ w2.heap.size) := by show _ ≤ _; have := HLq.out; omega
  go_wp2_with (at_builtin; refine Leb.wp_byte w3 rfl (.tmp 59) (.tmp 60) rfl _ _ (L1) (0) rfl HO.out rfl (by have := HLn.out; omega) (by first | exact HLo.out | exact Nat.le_refl _) ?_; intro v9 w9 ho9 hb9; have HO9 := Lib.hid ho9; have HW := Lib.hid (HW.out.trans (hb9.mono HLw.out)); obtain ⟨⟨g9, d9, rfl⟩, _⟩ := id ho9; clear ho9 hb9; go_wp2_with fail)
  have HS := own_slI HO9.out
  exact bodyPost_ret (v := .slice (some ⟨g9, 0, none⟩) (L1 ++ [0]).length d9) (by simp [results, Tryd.results56, go_sem]) rfl ⟨_, rfl, HS, HW.out⟩
theorem plaid_8 (op A B K : Int) (P : Option Addr) (n c : Nat) (w : World) (s : Int) (L1 : List Int)
    (wo : IntKind.u8.wrap op = op)
    (hK : ∀ W, Below w.heap.size w W → Calls Tryd.prog 50 #[.int .i64 op] W fun en w' => en = .returned (.int .i64 8) ∧ Below W.heap.size W w')
    (hV : ∀ W, Calls Tryd.prog 85 #[.int .u8 127, .int .u64 K] W fun en w' => en = .returned (.int .i64 s) ∧ W = w')
    (h1 : ∀ W v, Sl W v [op] → Calls Tryd.prog 84 #[v, .int .i64 s] W (Leb.Laid W L1)) :
    Calls Tryd.prog 56 #[.agg #[.int .i64 op, .int .i64 A, .int .i64 B, .int .u64 K, .slice P n c]] w (SlTold (L1) w) := by
  have HK := Lib.hid hK
  have HV := Lib.hid hV
  have H1 := Lib.hid h1
  clear hK hV h1
  have HW := Lib.hid (((Below.refl w.heap.size w).alloc (Nat.le_refl _) (.cells #[.int .i64 op, .int .i64 A, .int .i64 B, .int .u64 K, .slice P n c] 50)).alloc (by simp) (.cells #[.int .u8 op] 5))
  have HI := Lib.hid ((InAt.at_ w w.heap.size op A B K (.slice P n c) 50 rfl).keep ((Below.refl _ _).alloc (Nat.le_refl _) (.cells #[.int .u8 op] 5)))
  have HO := Lib.hid (own_one (w.alloc (.cells #[.int .i64 op, .int .i64 A, .int .i64 B, .int .u64 K, .slice P n c] 50)) op (w.heap.size + 1) (by simp))
  obtain ⟨i0, ic0, ic1, ic2, ic3, ic4, if0, if1, if2, if3, if4⟩ := HI.out
  go_enter Tryd.func56, Tryd.ntmps56
  go_wp2_with fail
  refine (HK.out _ HW.out).mono ?_
  rintro en w2 ⟨rfl, hb⟩
  have HI := Lib.hid (HI.out.keep hb)
  have HO := Lib.hid (HO.out.keep hb)
  have HW := Lib.hid (HW.out.trans (hb.mono HW.out.size))
  clear hb
  clear i0 ic0 ic1 ic2 ic3 ic4 if0 if1 if2 if3 if4
  obtain ⟨i0, ic0, ic1, ic2, ic3, ic4, if0, if1, if2, if3, if4⟩ := HI.out
  go_wp2_with fail
  refine (HV.out _).mono ?_
  rintro en wr ⟨rfl, rfl⟩
  go_wp2_with fail
  refine (H1.out _ _ (own_slI HO.out)).mono ?_
  rintro en w3 ⟨v3, rfl, ho, hb⟩
  have HO := Lib.hid ho
  clear ho
  have HI := Lib.hid (HI.out.keep hb)
  have HW := Lib.hid (HW.out.trans (hb.mono HW.out.size))
  clear hb
  clear i0 ic0 ic1 ic2 ic3 ic4 if0 if1 if2 if3 if4
  obtain ⟨i0, ic0, ic1, ic2, ic3, ic4, if0, if1, if2, if3, if4⟩ := HI.out
  obtain ⟨⟨g3, d3, rfl⟩, _⟩ := id HO.out
  go_wp2_with fail
  have HS := own_slI HO.out
  exact bodyPost_ret (v := .slice (some ⟨g3, 0, none⟩) L1.length d3) (by simp [results, Tryd.results56, go_sem]) rfl ⟨_, rfl, HS, HW.out⟩
theorem plaid_9 (op A B K : Int) (P : Option Addr) (n c : Nat) (w : World) (s : Int) (L1 : List Int)
    (wo : IntKind.u8.wrap op = op)
    (hK : ∀ W, Below w.heap.size w W → Calls Tryd.prog 50 #[.int .i64 op] W fun en w' => en = .returned (.int .i64 9) ∧ Below W.heap.size W w')
    (hV : ∀ W, Calls Tryd.prog 85 #[.int .u8 126, .int .u64 K] W fun en w' => en = .returned (.int .i64 s) ∧ W = w')
    (h1 : ∀ W v, Sl W v [op] → Calls Tryd.prog 84 #[v, .int .i64 s] W (Leb.Laid W L1)) :
    Calls Tryd.prog 56 #[.agg #[.int .i64 op, .int .i64 A, .int .i64 B, .int .u64 K, .slice P n c]] w (SlTold (L1) w) := by
  have HK := Lib.hid hK
  have HV := Lib.hid hV
  have H1 := Lib.hid h1
  clear hK hV h1
  have HW := Lib.hid (((Below.refl w.heap.size w).alloc (Nat.le_refl _) (.cells #[.int .i64 op, .int .i64 A, .int .i64 B, .int .u64 K, .slice P n c] 50)).alloc (by simp) (.cells #[.int .u8 op] 5))
  have HI := Lib.hid ((InAt.at_ w w.heap.size op A B K (.slice P n c) 50 rfl).keep ((Below.refl _ _).alloc (Nat.le_refl _) (.cells #[.int .u8 op] 5)))
  have HO := Lib.hid (own_one (w.alloc (.cells #[.int .i64 op, .int .i64 A, .int .i64 B, .int .u64 K, .slice P n c] 50)) op (w.heap.size + 1) (by simp))
  obtain ⟨i0, ic0, ic1, ic2, ic3, ic4, if0, if1, if2, if3, if4⟩ := HI.out
  go_enter Tryd.func56, Tryd.ntmps56
  go_wp2_with fail
  refine (HK.out _ HW.out).mono ?_
  rintro en w2 ⟨rfl, hb⟩
  have HI := Lib.hid (HI.out.keep hb)
  have HO := Lib.hid (HO.out.keep hb)
  have HW := Lib.hid (HW.out.trans (hb.mono HW.out.size))
  clear hb
  clear i0 ic0 ic1 ic2 ic3 ic4 if0 if1 if2 if3 if4
  obtain ⟨i0, ic0, ic1, ic2, ic3, ic4, if0, if1, if2, if3, if4⟩ := HI.out
  go_wp2_with fail
  refine (HV.out _).mono ?_
  rintro en wr ⟨rfl, rfl⟩
  go_wp2_with fail
  refine (H1.out _ _ (own_slI HO.out)).mono ?_
  rintro en w3 ⟨v3, rfl, ho, hb⟩
  have HO := Lib.hid ho
  clear ho
  have HI := Lib.hid (HI.out.keep hb)
  have HW := Lib.hid (HW.out.trans (hb.mono HW.out.size))
  clear hb
  clear i0 ic0 ic1 ic2 ic3 ic4 if0 if1 if2 if3 if4
  obtain ⟨i0, ic0, ic1, ic2, ic3, ic4, if0, if1, if2, if3, if4⟩ := HI.out
  obtain ⟨⟨g3, d3, rfl⟩, _⟩ := id HO.out
  go_wp2_with fail
  have HS := own_slI HO.out
  exact bodyPost_ret (v := .slice (some ⟨g3, 0, none⟩) L1.length d3) (by simp [results, Tryd.results56, go_sem]) rfl ⟨_, rfl, HS, HW.out⟩
end Go.Proofs.YtdmidagcdhhlhaaDoor.Ins

/- What the program lays of an instruction, kind by kind, B: two numbers; labels. -/
namespace Go.Proofs.YtdmidagcdhhlhaaDoor.Ins
open Go.RowKit Ints Typ
set_option maxRecDepth 100000
set_option maxHeartbeats 2000000
set_option linter.unusedVariables false

theorem prun_i1 (h : Nat) (W : World) : (Instr.fieldAt 50 (.pointer (some ⟨h, 0, none⟩)) 1).run Tryd.prog W = .ok (.pointer (some ⟨h, 1, none⟩)) W := by go_simp
theorem prun_i2 (h : Nat) (W : World) : (Instr.fieldAt 50 (.pointer (some ⟨h, 0, none⟩)) 2).run Tryd.prog W = .ok (.pointer (some ⟨h, 2, none⟩)) W := by go_simp
theorem prun_cv (x : Int) (W : World) (h : IntKind.u64.wrap x = x) : (convert 3 48 (.int .i64 x)).run Tryd.prog W = .ok (.int .u64 x) W := by go_simp
theorem sl_stays (L : List Int) : Stab.Stays (fun v w => Sl w v L) := fun _ _ _ h hb => Sl.keep h hb
theorem plaid_6 (op A B K : Int) (P : Option Addr) (n c : Nat) (w : World) (L1 L2 : List Int)
    (wo : IntKind.u8.wrap op = op)
    (hK : ∀ W, Below w.heap.size w W → Calls Tryd.prog 50 #[.int .i64 op] W fun en w' => en = .returned (.int .i64 6) ∧ Below W.heap.size W w')
    (wa : IntKind.u64.wrap A = A) (wb : IntKind.u64.wrap B = B)
    (h1 : ∀ W v, Sl W v [op] → Calls Tryd.prog 83 #[v, .int .u64 A] W (Leb.Laid W L1))
    (h2 : ∀ W v, Sl W v L1 → Calls Tryd.prog 83 #[v, .int .u64 B] W (Leb.Laid W L2)) :
    Calls Tryd.prog 56 #[.agg #[.int .i64 op, .int .i64 A, .int .i64 B, .int .u64 K, .slice P n c]] w (SlTold L2 w) := by
  have HK := Lib.hid hK
  have H1 := Lib.hid h1
  have H2 := Lib.hid h2
  have WA := Lib.hid wa
  have WB := Lib.hid wb
  clear hK h1 h2 wa wb
  have HW := Lib.hid (((Below.refl w.heap.size w).alloc (Nat.le_refl _) (.cells #[.int .i64 op, .int .i64 A, .int .i64 B, .int .u64 K, .slice P n c] 50)).alloc (by simp) (.cells #[.int .u8 op] 5))
  have HI := Lib.hid ((InAt.at_ w w.heap.size op A B K (.slice P n c) 50 rfl).keep ((Below.refl _ _).alloc (Nat.le_refl _) (.cells #[.int .u8 op] 5)))
  have HO := Lib.hid (own_one (w.alloc (.cells #[.int .i64 op, .int .i64 A, .int .i64 B, .int .u64 K, .slice P n c] 50)) op (w.heap.size + 1) (by simp))
  obtain ⟨i0, ic0, ic1, ic2, ic3, ic4, if0, if1, if2, if3, if4⟩ := HI.out
  go_enter Tryd.func56, Tryd.ntmps56
  go_wp2_with fail
  refine (HK.out _ HW.out).mono ?_
  rintro en w2 ⟨rfl, hb⟩
  have HI := Lib.hid (HI.out.keep hb)
  have HO := Lib.hid (HO.out.keep hb)
  have HW := Lib.hid (HW.out.trans (hb.mono HW.out.size))
  clear hb
  clear i0 ic0 ic1 ic2 ic3 ic4 if0 if1 if2 if3 if4
  go_wp2_with fail
  refine Stab.region 93 [.is (.slice (some ⟨w.heap.size + 1, 0, none⟩) 1 1), .is (.pointer (some ⟨w.heap.size, 1, none⟩)), .is (.int .i64 A), .is (.int .u64 A), .fits (fun v w => Sl w v L1), .is (.pointer (some ⟨w.heap.size, 2, none⟩)), .is (.int .i64 B), .is (.int .u64 B), .fits (fun v w => Sl w v L2), .fits (fun v w => Sl w v L2)] (by kernel_rfl) (by kernel_rfl) rfl rfl ?_ ?_
  · with_reducible refine Stab.steps_cons ?_ ?_ ?_
    · exact Stab.owes_move rfl rfl rfl
    · exact trivial
    with_reducible refine Stab.steps_cons ?_ ?_ ?_
    · exact Stab.owes_fieldAt rfl rfl (fun W => prun_i1 _ W) rfl
    · exact trivial
    with_reducible refine Stab.steps_cons ?_ ?_ ?_
    · exact Stab.owes_load rfl (fun v W hb hv => by subst hv; exact run_li _ _ _ W (HI.out.keep hb).c1) rfl
    · exact trivial
    with_reducible refine Stab.steps_cons ?_ ?_ ?_
    · exact Stab.owes_convert rfl (fun v W hb hv => by subst hv; exact prun_cv _ W WA.out) rfl
    · exact trivial
    with_reducible refine Stab.steps_cons ?_ ?_ ?_
    · (refine Stab.owes_call Tryd.func83 (by kernel_rfl) (by kernel_rfl) rfl (fun vs W hb hall => ?_) rfl; obtain ⟨_, _, rfl, rfl, _, _, rfl, rfl, rfl⟩ := hall; refine (H1.out W _ (own_slI (HO.out.keep hb))).mono ?_; rintro e w2 ⟨v2, rfl, ho2, hb2⟩; exact ⟨v2, rfl, hb2, own_slI ho2⟩)
    · exact sl_stays L1
    with_reducible refine Stab.steps_cons ?_ ?_ ?_
    · exact Stab.owes_fieldAt rfl rfl (fun W => prun_i2 _ W) rfl
    · exact trivial
    with_reducible refine Stab.steps_cons ?_ ?_ ?_
    · exact Stab.owes_load rfl (fun v W hb hv => by subst hv; exact run_li _ _ _ W (HI.out.keep hb).c2) rfl
    · exact trivial
    with_reducible refine Stab.steps_cons ?_ ?_ ?_
    · exact Stab.owes_convert rfl (fun v W hb hv => by subst hv; exact prun_cv _ W WB.out) rfl
    · exact trivial
    with_reducible refine Stab.steps_cons ?_ ?_ ?_
    · (refine Stab.owes_call Tryd.func83 (by kernel_rfl) (by kernel_rfl) rfl (fun vs W hb hall => ?_) rfl; obtain ⟨v1, _, rfl, hv1, _, _, rfl, rfl, rfl⟩ := hall; refine (H2.out W v1 hv1).mono ?_; rintro e w2 ⟨v2, rfl, ho2, hb2⟩; exact ⟨v2, rfl, hb2, own_slI ho2⟩)
    · exact sl_stays L2
    with_reducible refine Stab.steps_cons ?_ ?_ ?_
    · exact Stab.owes_assign rfl rfl rfl
    · exact sl_stays L2
    exact Stab.steps_nil
  · intro v1 v2 v3 W hb hI
    obtain ⟨h3, h2, h1, _⟩ := hI
    simp only [Act.put, List.setIfInBounds_toArray, List.set_cons_succ, List.set_cons_zero]
    have HS := Lib.hid h3
    have HW := Lib.hid (HW.out.trans (hb.mono HW.out.size))
    obtain ⟨A3, c3, rfl, _⟩ := id h3
    clear h1 h2 h3 hb
    go_wp2_with fail
    exact bodyPost_ret (v := .slice A3 L2.length c3) (by simp [results, Tryd.results56, go_sem]) rfl ⟨_, rfl, HS.out, HW.out⟩
/-- Labels' bytes. -/
def uLs (L : List Int) : List Int := L.flatMap fun v => Leb.uB v.toNat
theorem uLs_take {L : List Int} {k : Nat} (h : k < L.length) : uLs (L.take k) ++ Leb.uB (L.getD k 0).toNat = uLs (L.take (k + 1)) := by
  have e : L.getD k 0 = L[k] := by rw [List.getD_eq_getElem?_getD, List.getElem?_eq_getElem h]; rfl
  unfold uLs
  rw [List.take_succ_eq_append_getElem h, List.flatMap_append, e]
  simp
theorem uLs_len : ∀ (L : List Int), L.all okN = true → (uLs L).length ≤ 10 * L.length
  | [], _ => by simp [uLs]
  | v :: L, h => by
    rw [List.all_cons, Bool.and_eq_true] at h
    have h1 := uLs_len L h.2
    have hv : 0 ≤ v ∧ v ≤ 4294967295 := by have := h.1; unfold okN at this; simpa using this
    have h2 : (Leb.uB v.toNat).length ≤ 10 := by rw [Leb.uB_len]; exact (Leb.lenU_ten (by omega))
    have e : uLs (v :: L) = Leb.uB v.toNat ++ uLs L := rfl
    rw [e, List.length_append, List.length_cons]
    omega
theorem plaid_4 (op A B K : Int) (P : Option Addr) (n c : Nat) (w : World) (L : List Int) (L1 L2 : List Int) (hn : L.length = n) (hx : SlI w (.slice P n c) L) (hall : L.all okN = true)
    (wo : IntKind.u8.wrap op = op)
    (hK : ∀ W, Below w.heap.size w W → Calls Tryd.prog 50 #[.int .i64 op] W fun en w' => en = .returned (.int .i64 4) ∧ Below W.heap.size W w')
    (wa : IntKind.u64.wrap A = A) (wn : IntKind.u64.wrap (n : Int) = (n : Int)) (hn64 : n ≤ 64)
    (h1 : ∀ W v, Sl W v [op] → Calls Tryd.prog 83 #[v, .int .u64 (n : Int)] W (Leb.Laid W L1))
    (h2 : ∀ W v k, k < n → Sl W v (L1 ++ uLs (L.take k)) → Calls Tryd.prog 83 #[v, .int .u64 (L.getD k 0)] W (Leb.Laid W (L1 ++ uLs (L.take (k + 1)))))
    (h3 : ∀ W v, Sl W v (L1 ++ uLs L) → Calls Tryd.prog 83 #[v, .int .u64 A] W (Leb.Laid W L2)) :
    Calls Tryd.prog 56 #[.agg #[.int .i64 op, .int .i64 A, .int .i64 B, .int .u64 K, .slice P n c]] w (SlTold L2 w) := by
  have HK := Lib.hid hK
  have H1 := Lib.hid h1
  have H2 := Lib.hid h2
  have H3 := Lib.hid h3
  have N1 := Lib.hid hn
  have HX := Lib.hid hx
  have HALL := Lib.hid hall
  clear hK h1 h2 h3 hn hx hall
  have HW := Lib.hid (((Below.refl w.heap.size w).alloc (Nat.le_refl _) (.cells #[.int .i64 op, .int .i64 A, .int .i64 B, .int .u64 K, .slice P n c] 50)).alloc (by simp) (.cells #[.int .u8 op] 5))
  have HI := Lib.hid ((InAt.at_ w w.heap.size op A B K (.slice P n c) 50 rfl).keep ((Below.refl _ _).alloc (Nat.le_refl _) (.cells #[.int .u8 op] 5)))
  have HO := Lib.hid (own_one (w.alloc (.cells #[.int .i64 op, .int .i64 A, .int .i64 B, .int .u64 K, .slice P n c] 50)) op (w.heap.size + 1) (by simp))
  obtain ⟨i0, ic0, ic1, ic2, ic3, ic4, if0, if1, if2, if3, if4⟩ := HI.out
  go_enter Tryd.func56, Tryd.ntmps56
  go_wp2_with fail
  refine (HK.out _ HW.out).mono ?_
  rintro en w2 ⟨rfl, hb⟩
  have HI := Lib.hid (HI.out.keep hb)
  have HO := Lib.hid (HO.out.keep hb)
  have HW := Lib.hid (HW.out.trans (hb.mono HW.out.size))
  clear hb
  clear i0 ic0 ic1 ic2 ic3 ic4 if0 if1 if2 if3 if4
  obtain ⟨i0, ic0, ic1, ic2, ic3, ic4, if0, if1, if2, if3, if4⟩ := HI.out
  go_wp2_with fail
  refine (H1.out _ _ (own_slI HO.out)).mono ?_
  rintro en w3 ⟨v3, rfl, ho, hb⟩
  have HS := Lib.hid (own_slI ho)
  have HI := Lib.hid (HI.out.keep hb)
  have HW := Lib.hid (HW.out.trans (hb.mono HW.out.size))
  clear ho hb i0 ic0 ic1 ic2 ic3 ic4 if0 if1 if2 if3 if4
  obtain ⟨i0, ic0, ic1, ic2, ic3, ic4, if0, if1, if2, if3, if4⟩ := HI.out
  go_wp2_with fail
  clear i0 ic0 ic1 ic2 ic3 ic4 if0 if1 if2 if3 if4
  go_loopw [3, 39] (fun v' j' wr => ∃ k : Nat, j' = .int .i64 (k : Int) ∧ k ≤ n ∧ Sl wr v' (L1 ++ uLs (L.take k)) ∧ InAt wr w.heap.size op A B K (.slice P n c) ∧ Below w.heap.size w wr) (fun _ j' _ => n - (intOf j').toNat)
  case atStart => exact ⟨0, rfl, Nat.zero_le _, by rw [show uLs (L.take 0) = [] from rfl, List.append_nil]; exact HS.out, HI.out, HW.out⟩
  case round =>
    clear HS HI HW
    obtain ⟨k, rfl, hk, hS, hI, hW⟩ := hrel
    have HSr := Lib.hid hS
    have HIr := Lib.hid hI
    have HWr := Lib.hid hW
    clear hS hI hW
    obtain ⟨i0, ic0, ic1, ic2, ic3, ic4, if0, if1, if2, if3, if4⟩ := HIr.out
    by_cases hlt : k < n
    · have HXW := Lib.hid (HX.out.keep HWr.out)
      obtain ⟨g1, p1, rfl, hc1⟩ := HXW.out.at_ (j := k) (by rw [N1.out]; exact hlt)
      have hin1 : (0 : Int) ≤ (k : Int) := by omega
      have hin2 : (k : Int) < (n : Int) := by omega
      have HC := Lib.hid (H2.out wr _ k hlt HSr.out)
      have hu0 : 0 ≤ L.getD k 0 ∧ L.getD k 0 ≤ 4294967295 := by
        have h1 := List.all_eq_true.1 HALL.out (L.getD k 0) (by rw [List.getD_eq_getElem?_getD, List.getElem?_eq_getElem (by rw [N1.out]; exact hlt)]; simp)
        unfold okN at h1
        simpa using h1
      generalize L.getD k 0 = u at *
      have hwu : IntKind.u64.wrap u = u := by rw [IntKind.wrap_u64]; omega
      go_wp2_with fail
      refine HC.out.mono ?_
      rintro en w4 ⟨v4, rfl, ho, hb⟩
      have HS4 := Lib.hid (own_slI ho)
      have HI4 := Lib.hid (HIr.out.keep hb)
      have HW4 := Lib.hid (HWr.out.trans (hb.mono HWr.out.size))
      clear ho hb
      go_wp2_with fail
      go_roundw
      case rel => exact ⟨k + 1, by go_num, hlt, HS4.out, HI4.out, HW4.out⟩
      case measure => simp [intOf]; omega
    · obtain rfl : k = n := by omega
      have HT := HSr.out
      rw [List.take_of_length_le (by rw [N1.out]; exact Nat.le_refl _)] at HT
      have HT := Lib.hid HT
      go_wp2_with fail
      refine (H3.out _ _ HT.out).mono ?_
      rintro en w4 ⟨v4, rfl, ho, hb⟩
      have HS4 := own_slI ho
      have HWs := Lib.hid (HWr.out.trans (hb.mono HWr.out.size))
      obtain ⟨⟨g4, d4, rfl⟩, _⟩ := id ho
      clear ho hb
      go_wp2_with fail
      exact bodyPost_ret (v := .slice (some ⟨g4, 0, none⟩) L2.length d4) (by simp [results, Tryd.results56, go_sem]) rfl ⟨_, rfl, HS4, HWs.out⟩
end Go.Proofs.YtdmidagcdhhlhaaDoor.Ins

/- What the program lays of an instruction that may be; Put. -/
namespace Go.Proofs.YtdmidagcdhhlhaaDoor.Ins
open Go.RowKit Ints Typ
set_option maxRecDepth 100000
set_option maxHeartbeats 1000000
set_option linter.unusedVariables false

/-- The bytes of an instruction. -/
def ib (x : Ins) : List Int :=
  if kd x.op = 2 then [x.op] ++ [if x.A = 0 then 64 else x.A]
  else if kd x.op = 3 then [x.op] ++ Leb.uB x.A.toNat
  else if kd x.op = 4 then [x.op] ++ Leb.uB x.L.length ++ uLs x.L ++ Leb.uB x.A.toNat
  else if kd x.op = 5 then [x.op] ++ Leb.uB x.A.toNat ++ [0]
  else if kd x.op = 6 then [x.op] ++ Leb.uB x.A.toNat ++ Leb.uB x.B.toNat
  else if kd x.op = 7 then [x.op] ++ [0]
  else if kd x.op = 8 then [x.op] ++ Leb.sB (sgT 127 x.K)
  else if kd x.op = 9 then [x.op] ++ Leb.sB (sgT 126 x.K)
  else [x.op]
theorem okN_of {a : Int} (h : okN a = true) : 0 ≤ a ∧ a ≤ 4294967295 := by unfold okN at h; simpa using h
theorem okN_nat {a : Int} (h : okN a = true) : ((a.toNat : Nat) : Int) = a := by have := okN_of h; omega
theorem okN_wrap {a : Int} (h : okN a = true) : IntKind.u64.wrap a = a := by have := okN_of h; rw [IntKind.wrap_u64]; omega
theorem uB_ten {a : Nat} (h : a ≤ 4294967295) : (Leb.uB a).length ≤ 10 := by rw [Leb.uB_len]; exact Leb.lenU_ten (by omega)
theorem sg_range (t v : Int) (hv : u64R v) : -9223372036854775808 ≤ sgT t v ∧ sgT t v ≤ 9223372036854775807 := by
  unfold u64R at hv
  unfold sgT sg32 sg64
  repeat' split
  all_goals omega
theorem U_sl {W : World} {v : Value} {l : List Int} {a : Int} (ha : okN a = true) (hl : l.length ≤ 1000000) (h : Sl W v l) : Calls Tryd.prog 83 #[v, .int .u64 a] W (Leb.Laid W (l ++ Leb.uB a.toNat)) := by
  obtain ⟨A, c, hv, _⟩ := id h
  subst hv
  have := Leb.U_any A c a.toNat l W h.leb hl (by have := okN_of ha; omega)
  rw [okN_nat ha] at this
  exact this
theorem S_sl {W : World} {v : Value} {l : List Int} {a : Int} (h1 : -9223372036854775808 ≤ a) (h2 : a ≤ 9223372036854775807) (hl : l.length ≤ 1000000) (h : Sl W v l) : Calls Tryd.prog 84 #[v, .int .i64 a] W (Leb.Laid W (l ++ Leb.sB a)) := by
  obtain ⟨A, c, hv, _⟩ := id h
  subst hv
  exact Leb.S_any A c a l W h.leb hl h1 h2
theorem plaid_any {x : Ins} {o : Value} {w : World} (hx : SlI w o x.L) (hu : u64R x.K) (hT : KTab w) (hs : saneI x = true) : Calls Tryd.prog 56 #[iv x o] w (SlTold (ib x) w) := by
  obtain ⟨P, c, ho, _⟩ := id hx
  subst ho
  have hr := kd_range x.op
  have hK : ∀ k : Int, kd x.op = k → ∀ W, Below w.heap.size w W → Calls Tryd.prog 50 #[.int .i64 x.op] W fun en w' => en = .returned (.int .i64 k) ∧ Below W.heap.size W w' := fun k hk W hW => by
    have := kind_told x.op W (hT.keep hW)
    unfold KdTold at this
    rwa [hk] at this
  unfold iv
  have hk : kd x.op = 0 ∨ kd x.op = 1 ∨ kd x.op = 2 ∨ kd x.op = 3 ∨ kd x.op = 4 ∨ kd x.op = 5 ∨ kd x.op = 6 ∨ kd x.op = 7 ∨ kd x.op = 8 ∨ kd x.op = 9 := by omega
  have hsg : ∀ t W, Calls Tryd.prog 85 #[.int .u8 t, .int .u64 x.K] W fun en w' => en = .returned (.int .i64 (sgT t x.K)) ∧ W = w' := fun t W => sgn_any t x.K W hu
  have wo : kd x.op ≠ 0 → IntKind.u8.wrap x.op = x.op := fun h => by have := kd_code h; rw [IntKind.wrap_u8]; omega
  rw [saneI_eq] at hs
  rcases hk with hk | hk | hk | hk | hk | hk | hk | hk | hk | hk <;> rw [hk] at hs wo
  · rw [saneK_0] at hs
    exact absurd hs (by simp)
  · rw [show ib x = [x.op] from by simp [ib, hk]]
    exact plaid_1 _ _ _ _ P _ c w (wo (by decide)) (hK 1 hk)
  · rw [show ib x = [x.op] ++ [if x.A = 0 then 64 else x.A] from by simp [ib, hk]]
    rw [saneK_2, Bool.and_eq_true] at hs
    have hA : x.A = 0 ∨ x.A = 127 ∨ x.A = 126 := by simpa [or_assoc] using hs.1
    refine plaid_2 _ _ _ _ P _ c w _ (wo (by decide)) (hK 2 hk) fun W => rbyte_core x.A _ W _ rfl ?_
    rcases hA with h | h | h <;> rw [h] <;> decide
  · rw [show ib x = [x.op] ++ Leb.uB x.A.toNat from by simp [ib, hk]]
    rw [saneK_3, Bool.and_eq_true] at hs
    exact plaid_3 _ _ _ _ P _ c w _ (wo (by decide)) (hK 3 hk) (okN_wrap hs.1) fun W v hv => U_sl hs.1 (by simp) hv
  · rw [show ib x = [x.op] ++ Leb.uB x.L.length ++ uLs x.L ++ Leb.uB x.A.toNat from by simp [ib, hk]]
    rw [saneK_4, Bool.and_eq_true, Bool.and_eq_true, Bool.and_eq_true] at hs
    obtain ⟨⟨⟨hall, hlen⟩, hA⟩, _⟩ := hs
    have hlen : x.L.length ≤ 64 := by have := of_decide_eq_true hlen; omega
    have hok : okN (x.L.length : Int) = true := by unfold okN; simp; omega
    have hu1 := uB_ten (a := x.L.length) (by omega)
    have hu2 := uLs_len x.L hall
    refine plaid_4 _ _ _ _ P _ c w x.L ([x.op] ++ Leb.uB x.L.length) _ rfl hx hall (wo (by decide)) (hK 4 hk) (okN_wrap hA) (okN_wrap hok) hlen ?_ ?_ ?_
    · intro W v hv
      have := U_sl hok (by simp) hv
      rw [Int.toNat_natCast] at this
      exact this
    · intro W v k hk' hv
      have hg : okN (x.L.getD k 0) = true := List.all_eq_true.1 hall _ (by rw [List.getD_eq_getElem?_getD, List.getElem?_eq_getElem hk']; simp)
      have ht := uLs_len (x.L.take k) (List.all_eq_true.2 fun y hy => List.all_eq_true.1 hall y (List.mem_of_mem_take hy))
      have hlt : (x.L.take k).length ≤ 64 := by rw [List.length_take]; omega
      have := U_sl hg (by simp only [List.length_append, List.length_singleton]; omega) hv
      rw [List.append_assoc, uLs_take hk'] at this
      exact this
    · intro W v hv
      exact U_sl hA (by simp only [List.length_append, List.length_singleton]; omega) hv
  · rw [show ib x = [x.op] ++ Leb.uB x.A.toNat ++ [0] from by simp [ib, hk]]
    rw [saneK_5, Bool.and_eq_true] at hs
    have hu1 := uB_ten (a := x.A.toNat) (by have := okN_of hs.1; omega)
    exact plaid_5 _ _ _ _ P _ c w _ (wo (by decide)) (hK 5 hk) (okN_wrap hs.1) (by simp only [List.length_append, List.length_singleton]; omega) fun W v hv => U_sl hs.1 (by simp) hv
  · rw [show ib x = [x.op] ++ Leb.uB x.A.toNat ++ Leb.uB x.B.toNat from by simp [ib, hk]]
    rw [saneK_6, Bool.and_eq_true, Bool.and_eq_true] at hs
    have hu1 := uB_ten (a := x.A.toNat) (by have := okN_of hs.1.1; omega)
    exact plaid_6 _ _ _ _ P _ c w _ _ (wo (by decide)) (hK 6 hk) (okN_wrap hs.1.1) (okN_wrap hs.1.2) (fun W v hv => U_sl hs.1.1 (by simp) hv) (fun W v hv => U_sl hs.1.2 (by simp only [List.length_append, List.length_singleton]; omega) hv)
  · rw [show ib x = [x.op] ++ [0] from by simp [ib, hk]]
    exact plaid_7 _ _ _ _ P _ c w (wo (by decide)) (hK 7 hk)
  · rw [show ib x = [x.op] ++ Leb.sB (sgT 127 x.K) from by simp [ib, hk]]
    have hg := sg_range 127 x.K hu
    exact plaid_8 _ _ _ _ P _ c w _ _ (wo (by decide)) (hK 8 hk) (hsg 127) fun W v hv => S_sl hg.1 hg.2 (by simp) hv
  · rw [show ib x = [x.op] ++ Leb.sB (sgT 126 x.K) from by simp [ib, hk]]
    have hg := sg_range 126 x.K hu
    exact plaid_9 _ _ _ _ P _ c w _ _ (wo (by decide)) (hK 9 hk) (hsg 126) fun W v hv => S_sl hg.1 hg.2 (by simp) hv
theorem sB_ten {a : Int} (h1 : -9223372036854775808 ≤ a) (h2 : a ≤ 9223372036854775807) : (Leb.sB a).length ≤ 10 := by rw [Leb.sB_len]; exact Leb.lenS_ten h1 h2
/-- What is known of the bytes of an instruction that may be. -/
theorem ib_facts {x : Ins} (hu : u64R x.K) (hs : saneI x = true) : 0 < (ib x).length ∧ (ib x).length ≤ 700 ∧ (∀ y ∈ ib x, 0 ≤ y ∧ y < 256) ∧ ib x = [x.op] ++ (ib x).drop 1 := by
  have hr := kd_range x.op
  have hk : kd x.op = 0 ∨ kd x.op = 1 ∨ kd x.op = 2 ∨ kd x.op = 3 ∨ kd x.op = 4 ∨ kd x.op = 5 ∨ kd x.op = 6 ∨ kd x.op = 7 ∨ kd x.op = 8 ∨ kd x.op = 9 := by omega
  have hU : ∀ n : Nat, ∀ y ∈ Leb.uB n, 0 ≤ y ∧ y < 256 := fun n y hy => by have := Leb.uB_byte n y hy; omega
  have hS : ∀ n : Int, ∀ y ∈ Leb.sB n, 0 ≤ y ∧ y < 256 := fun n y hy => by have := Leb.sB_byte n y hy; omega
  have hop : kd x.op ≠ 0 → 0 ≤ x.op ∧ x.op < 256 := fun h => by have := kd_code h; omega
  rw [saneI_eq] at hs
  rcases hk with hk | hk | hk | hk | hk | hk | hk | hk | hk | hk <;> rw [hk] at hs hop
  · rw [saneK_0] at hs
    exact absurd hs (by simp)
  · rw [show ib x = [x.op] from by simp [ib, hk]]
    exact ⟨by simp, by simp, by simpa using hop, by simp⟩
  · rw [show ib x = [x.op] ++ [if x.A = 0 then 64 else x.A] from by simp [ib, hk]]
    rw [saneK_2, Bool.and_eq_true] at hs
    have hA : x.A = 0 ∨ x.A = 127 ∨ x.A = 126 := by simpa [or_assoc] using hs.1
    refine ⟨by simp, by simp, ?_, by simp⟩
    intro y hy
    rcases List.mem_append.1 hy with hy | hy
    · rw [List.mem_singleton.1 hy]; exact hop (by decide)
    · rw [List.mem_singleton.1 hy]; rcases hA with h | h | h <;> rw [h] <;> decide
  · rw [show ib x = [x.op] ++ Leb.uB x.A.toNat from by simp [ib, hk]]
    rw [saneK_3, Bool.and_eq_true] at hs
    have hu1 := uB_ten (a := x.A.toNat) (by have := okN_of hs.1; omega)
    refine ⟨by simp, by simp only [List.length_append, List.length_singleton]; omega, ?_, by simp⟩
    intro y hy
    rcases List.mem_append.1 hy with hy | hy
    · rw [List.mem_singleton.1 hy]; exact hop (by decide)
    · exact hU _ y hy
  · rw [show ib x = [x.op] ++ Leb.uB x.L.length ++ uLs x.L ++ Leb.uB x.A.toNat from by simp [ib, hk]]
    rw [saneK_4, Bool.and_eq_true, Bool.and_eq_true, Bool.and_eq_true] at hs
    obtain ⟨⟨⟨hall, hlen⟩, hA⟩, _⟩ := hs
    have hlen : x.L.length ≤ 64 := by have := of_decide_eq_true hlen; omega
    have hu1 := uB_ten (a := x.L.length) (by omega)
    have hu2 := uLs_len x.L hall
    have hu3 := uB_ten (a := x.A.toNat) (by have := okN_of hA; omega)
    refine ⟨by simp, by simp only [List.length_append, List.length_singleton]; omega, ?_, by simp⟩
    intro y hy
    rcases List.mem_append.1 hy with hy | hy
    · rcases List.mem_append.1 hy with hy | hy
      · rcases List.mem_append.1 hy with hy | hy
        · rw [List.mem_singleton.1 hy]; exact hop (by decide)
        · exact hU _ y hy
      · obtain ⟨z, _, hz⟩ := List.mem_flatMap.1 hy
        exact hU _ y hz
    · exact hU _ y hy
  · rw [show ib x = [x.op] ++ Leb.uB x.A.toNat ++ [0] from by simp [ib, hk]]
    rw [saneK_5, Bool.and_eq_true] at hs
    have hu1 := uB_ten (a := x.A.toNat) (by have := okN_of hs.1; omega)
    refine ⟨by simp, by simp only [List.length_append, List.length_singleton]; omega, ?_, by simp⟩
    intro y hy
    rcases List.mem_append.1 hy with hy | hy
    · rcases List.mem_append.1 hy with hy | hy
      · rw [List.mem_singleton.1 hy]; exact hop (by decide)
      · exact hU _ y hy
    · rw [List.mem_singleton.1 hy]; decide
  · rw [show ib x = [x.op] ++ Leb.uB x.A.toNat ++ Leb.uB x.B.toNat from by simp [ib, hk]]
    rw [saneK_6, Bool.and_eq_true, Bool.and_eq_true] at hs
    have hu1 := uB_ten (a := x.A.toNat) (by have := okN_of hs.1.1; omega)
    have hu2 := uB_ten (a := x.B.toNat) (by have := okN_of hs.1.2; omega)
    refine ⟨by simp, by simp only [List.length_append, List.length_singleton]; omega, ?_, by simp⟩
    intro y hy
    rcases List.mem_append.1 hy with hy | hy
    · rcases List.mem_append.1 hy with hy | hy
      · rw [List.mem_singleton.1 hy]; exact hop (by decide)
      · exact hU _ y hy
    · exact hU _ y hy
  · rw [show ib x = [x.op] ++ [0] from by simp [ib, hk]]
    refine ⟨by simp, by simp, ?_, by simp⟩
    intro y hy
    rcases List.mem_append.1 hy with hy | hy
    · rw [List.mem_singleton.1 hy]; exact hop (by decide)
    · rw [List.mem_singleton.1 hy]; decide
  · rw [show ib x = [x.op] ++ Leb.sB (sgT 127 x.K) from by simp [ib, hk]]
    have hg := sg_range 127 x.K hu
    have hu1 := sB_ten hg.1 hg.2
    refine ⟨by simp, by simp only [List.length_append, List.length_singleton]; omega, ?_, by simp⟩
    intro y hy
    rcases List.mem_append.1 hy with hy | hy
    · rw [List.mem_singleton.1 hy]; exact hop (by decide)
    · exact hS _ y hy
  · rw [show ib x = [x.op] ++ Leb.sB (sgT 126 x.K) from by simp [ib, hk]]
    have hg := sg_range 126 x.K hu
    have hu1 := sB_ten hg.1 hg.2
    refine ⟨by simp, by simp only [List.length_append, List.length_singleton]; omega, ?_, by simp⟩
    intro y hy
    rcases List.mem_append.1 hy with hy | hy
    · rw [List.mem_singleton.1 hy]; exact hop (by decide)
    · exact hS _ y hy
/-- Bytes, and an error: told. -/
def PutTold (L : List Int) (n : Int) (w : World) (en : Ending) (w' : World) : Prop := ∃ v, en = .returned (.tuple #[v, .int .i64 n]) ∧ Sl w' v L ∧ Below w.heap.size w w'
theorem pput_no (v : Value) (op A B K : Int) (P : Option Addr) (n c : Nat) (w : World)
    (hS : ∀ W, Below w.heap.size w W → Calls Tryd.prog 54 #[.agg #[.int .i64 op, .int .i64 A, .int .i64 B, .int .u64 K, .slice P n c]] W fun en w' => en = .returned (.bool false) ∧ Below W.heap.size W w') :
    Calls Tryd.prog 36 #[v, .agg #[.int .i64 op, .int .i64 A, .int .i64 B, .int .u64 K, .slice P n c]] w (PutTold [] 1 w) := by
  have HS := Lib.hid hS
  have HA1 := Lib.hid ((Below.refl w.heap.size w).alloc (Nat.le_refl _) (.cells #[.int .i64 op, .int .i64 A, .int .i64 B, .int .u64 K, .slice P n c] 50))
  have HI := Lib.hid (InAt.at_ w w.heap.size op A B K (.slice P n c) 50 rfl)
  clear hS
  obtain ⟨i0, ic0, ic1, ic2, ic3, ic4, if0, if1, if2, if3, if4⟩ := HI.out
  go_enter Tryd.func36, Tryd.ntmps36
  go_wp2_with fail
  refine (HS.out _ HA1.out).mono ?_
  rintro en w2 ⟨rfl, hb2⟩
  have HW := Lib.hid (HA1.out.trans (hb2.mono HA1.out.size))
  clear hb2
  go_wp2_with fail
  exact bodyPost_ret (v := .tuple #[.slice none 0 0, .int .i64 1]) (by simp [results, Tryd.results36, go_sem]) rfl ⟨_, rfl, Sl.nil _, HW.out⟩
theorem pput_yes (A0 : Option Addr) (c0 : Nat) (b L : List Int) (op A B K : Int) (P : Option Addr) (n c : Nat) (w : World) (hv : Sl w (.slice A0 b.length c0) b) (hb : b.length ≤ 10000) (hL0 : 0 < L.length) (hL : L.length ≤ 10000)
    (hS : ∀ W, Below w.heap.size w W → Calls Tryd.prog 54 #[.agg #[.int .i64 op, .int .i64 A, .int .i64 B, .int .u64 K, .slice P n c]] W fun en w' => en = .returned (.bool true) ∧ Below W.heap.size W w')
    (hD : ∀ W, Below w.heap.size w W → Calls Tryd.prog 56 #[.agg #[.int .i64 op, .int .i64 A, .int .i64 B, .int .u64 K, .slice P n c]] W (SlTold L W)) :
    Calls Tryd.prog 36 #[.slice A0 b.length c0, .agg #[.int .i64 op, .int .i64 A, .int .i64 B, .int .u64 K, .slice P n c]] w (PutTold (b ++ L) 0 w) := by
  have HS := Lib.hid hS
  have HD := Lib.hid hD
  have HV := Lib.hid hv
  have HL := Lib.hid hL
  have HL0 := Lib.hid hL0
  have HBl := Lib.hid hb
  have HA1 := Lib.hid ((Below.refl w.heap.size w).alloc (Nat.le_refl _) (.cells #[.int .i64 op, .int .i64 A, .int .i64 B, .int .u64 K, .slice P n c] 50))
  have HI := Lib.hid (InAt.at_ w w.heap.size op A B K (.slice P n c) 50 rfl)
  clear hS hD hv hL hb hL0
  obtain ⟨m, hm⟩ : ∃ m, b.length = m := ⟨_, rfl⟩
  rw [hm]
  have HM := Lib.hid hm
  clear hm
  obtain ⟨i0, ic0, ic1, ic2, ic3, ic4, if0, if1, if2, if3, if4⟩ := HI.out
  go_enter Tryd.func36, Tryd.ntmps36
  go_wp2_with fail
  refine (HS.out _ HA1.out).mono ?_
  rintro en w2 ⟨rfl, hb2⟩
  have HI := Lib.hid (HI.out.keep hb2)
  have HW := Lib.hid (HA1.out.trans (hb2.mono HA1.out.size))
  clear hb2 i0 ic0 ic1 ic2 ic3 ic4 if0 if1 if2 if3 if4
  obtain ⟨i0, ic0, ic1, ic2, ic3, ic4, if0, if1, if2, if3, if4⟩ := HI.out
  go_wp2_with fail
  refine (HD.out _ HW.out).mono ?_
  rintro en w3 ⟨v3, rfl, hs3, hb3⟩
  have HW3 := Lib.hid (HW.out.trans (hb3.mono HW.out.size))
  obtain ⟨A3, c3, rfl, _⟩ := id hs3
  have HS3 := Lib.hid hs3
  obtain ⟨m3, hm3⟩ : ∃ m3, L.length = m3 := ⟨_, rfl⟩
  rw [hm3]
  have HM3 := Lib.hid hm3
  clear hb3 hs3 hm3 i0 ic0 ic1 ic2 ic3 ic4 if0 if1 if2 if3 if4
  go_wp2_with fail
  have HW4 := Lib.hid (HW3.out.alloc HW3.out.size (.cells #[.slice A0 m c0, .slice A3 m3 c3] 23))
  have HC : Hid (Calls Tryd.prog 55 #[.slice (some ⟨w3.heap.size, 0, none⟩) 2 2] (w3.alloc (.cells #[.slice A0 m c0, .slice A3 m3 c3] 23)) (Leb.Laid (w3.alloc (.cells #[.slice A0 m c0, .slice A3 m3 c3] 23)) (b ++ L))) := by
    have hba := (Below.refl w3.heap.size w3).alloc (Nat.le_refl _) (.cells #[.slice A0 m c0, .slice A3 m3 c3] 23)
    exact concat_any w3.heap.size A0 A3 c0 c3 b L _ (by rw [HM.out]; simp) (by rw [HM3.out]; simp) (by simp) ((HV.out.keep HW3.out).keep hba).leb ((HS3.out).keep hba).leb (by have := HBl.out; omega) (by have := HL.out; omega) (by have := HL0.out; omega)
  refine HC.out.mono ?_
  rintro en w5 ⟨v5, rfl, ho5, hb5⟩
  have HO5 := Lib.hid (own_slI ho5)
  have HW5 := Lib.hid (HW4.out.trans (hb5.mono HW4.out.size))
  obtain ⟨⟨g5, d5, rfl⟩, _⟩ := id ho5
  clear ho5 hb5
  go_wp2_with fail
  exact bodyPost_ret (v := .tuple #[.slice (some ⟨g5, 0, none⟩) (b ++ L).length d5, .int .i64 0]) (by simp [results, Tryd.results36, go_sem]) rfl ⟨_, rfl, HO5.out, HW5.out⟩
/-- What Put gives, by the document. -/
def PutIs (b : List Int) (x : Ins) (w : World) (en : Ending) (w' : World) : Prop := PutTold (bif saneI x then b ++ ib x else []) (bif saneI x then 0 else 1) w en w'
theorem pput_any {x : Ins} {o v : Value} {b : List Int} {w : World} (hv : Sl w v b) (hb : b.length ≤ 10000) (hx : SlI w o x.L) (hu : u64R x.K) (hT : KTab w) : Calls Tryd.prog 36 #[v, iv x o] w (PutIs b x w) := by
  have hS : ∀ W, Below w.heap.size w W → Calls Tryd.prog 54 #[iv x o] W fun en w' => en = .returned (.bool (saneI x)) ∧ Below W.heap.size W w' := fun W hW => psane_any (hx.keep hW) hu (hT.keep hW)
  obtain ⟨P, c, ho, _⟩ := id hx
  obtain ⟨A0, c0, hv0, _⟩ := id hv
  subst ho hv0
  unfold PutIs
  cases hs : saneI x with
  | false =>
    rw [hs] at hS
    exact pput_no _ _ _ _ _ P _ c w hS
  | true =>
    rw [hs] at hS
    obtain ⟨h1, h2, _⟩ := ib_facts hu hs
    exact pput_yes A0 c0 b (ib x) _ _ _ _ P _ c w hv hb h1 (by omega) hS fun W hW => plaid_any (hx.keep hW) hu (hT.keep hW) hs
end Go.Proofs.YtdmidagcdhhlhaaDoor.Ins
