/- InsPLaid, InsPLaidB. -/
import Derived.Test.YtffegkjlgeblbaaGreatDoorPkInsPSane
import Derived.Test.YtffegkjlgeblbaaGreatDoorPkTypSame
import Derived.Test.YtffegkjlgeblbaaGreatDoorStabAll
section
/- What the program lays of an instruction, kind by kind, A. -/
namespace Go.Proofs.YtffegkjlgeblbaaGreatDoor.Ins
open Go.RowKit Ints Typ
set_option maxRecDepth 100000
set_option maxHeartbeats 2000000
set_option linter.unusedVariables false

theorem own_slI {w : World} {B : Nat} {v : Value} {l : List Int} (h : Leb.Own w B v l) : Sl w v l := OwnB.sl (show OwnB w B v l from h.2)
def SlTold (L : List Int) (w : World) (en : Ending) (w' : World) : Prop := ∃ v, en = .returned v ∧ Sl w' v L ∧ Below w.heap.size w w'
theorem own_one (w : World) (x : Int) (g : Nat) (hg : g = w.heap.size) : Leb.Own (w.alloc (.cells #[.int .u8 x] 5)) g (.slice (some ⟨g, 0, none⟩) 1 1) [x] := by
  subst hg
  exact ⟨⟨_, _, rfl⟩, by simp [Leb.vb], .inr ⟨_, _, _, rfl, Nat.le_refl _, heap_alloc_new w _, Nat.le_refl _, by simp [maxLen], by simp, by simp [Leb.vb]⟩⟩
theorem rbyte_core (a y : Int) (w : World) (b : Bool) (h : (a == 0) = b) (hy : (bif b then 64 else IntKind.u8.wrap a) = y) : Calls Tryz.prog 278 #[.int .i64 a] w fun en w' => en = .returned (.int .u8 y) ∧ w = w' := by
  cases b with
  | true =>
    obtain rfl : (64 : Int) = y := hy
    go_enter Tryz.func278, Tryz.ntmps278
    go_wp2_with fail
    go_ret
    exact ⟨rfl, rfl⟩
  | false =>
    have hy : IntKind.u8.wrap a = y := hy
    go_enter Tryz.func278, Tryz.ntmps278
    go_wp2_with fail
    go_ret
    exact ⟨rfl, rfl⟩
theorem plaid_1 (op A B K : Int) (P : Option Addr) (n c : Nat) (w : World) 
    (wo : IntKind.u8.wrap op = op)
    (hK : ∀ W, Below w.heap.size w W → Calls Tryz.prog 266 #[.int .i64 op] W fun en w' => en = .returned (.int .i64 1) ∧ Below W.heap.size W w') :
    Calls Tryz.prog 256 #[.agg #[.int .i64 op, .int .i64 A, .int .i64 B, .int .u64 K, .slice P n c]] w (SlTold ([op]) w) := by
  have HK := Lib.hid hK
  clear hK
  have HW := Lib.hid (((Below.refl w.heap.size w).alloc (Nat.le_refl _) (.cells #[.int .i64 op, .int .i64 A, .int .i64 B, .int .u64 K, .slice P n c] 67)).alloc (by simp) (.cells #[.int .u8 op] 5))
  have HI := Lib.hid ((InAt.at_ w w.heap.size op A B K (.slice P n c) 67 rfl).keep ((Below.refl _ _).alloc (Nat.le_refl _) (.cells #[.int .u8 op] 5)))
  have HO := Lib.hid (own_one (w.alloc (.cells #[.int .i64 op, .int .i64 A, .int .i64 B, .int .u64 K, .slice P n c] 67)) op (w.heap.size + 1) (by simp))
  obtain ⟨i0, ic0, ic1, ic2, ic3, ic4, if0, if1, if2, if3, if4⟩ := HI.out
  go_enter Tryz.func256, Tryz.ntmps256
  go_wp2_with fail
  refine (HK.out _ HW.out).mono ?_
  rintro en w2 ⟨rfl, hb⟩
  have HI := Lib.hid (HI.out.keep hb)
  have HO := Lib.hid (HO.out.keep hb)
  have HW := Lib.hid (HW.out.trans (hb.mono HW.out.size))
  clear hb
  clear i0 ic0 ic1 ic2 ic3 ic4 if0 if1 if2 if3 if4
  obtain ⟨i0, ic0, ic1, ic2, ic3, ic4, if0, if1, if2, if3, if4⟩ := HI.out
  go_wp2_with fail
  have HS := own_slI HO.out
  exact bodyPost_ret (v := .slice (some ⟨w.heap.size + 1, 0, none⟩) 1 1) (by simp [results, Tryz.results256, go_sem]) rfl ⟨_, rfl, HS, HW.out⟩
theorem plaid_7 (op A B K : Int) (P : Option Addr) (n c : Nat) (w : World) 
    (wo : IntKind.u8.wrap op = op)
    (hK : ∀ W, Below w.heap.size w W → Calls Tryz.prog 266 #[.int .i64 op] W fun en w' => en = .returned (.int .i64 7) ∧ Below W.heap.size W w') :
    Calls Tryz.prog 256 #[.agg #[.int .i64 op, .int .i64 A, .int .i64 B, .int .u64 K, .slice P n c]] w (SlTold ([op] ++ [0]) w) := by
  have HK := Lib.hid hK
  clear hK
  have HW := Lib.hid (((Below.refl w.heap.size w).alloc (Nat.le_refl _) (.cells #[.int .i64 op, .int .i64 A, .int .i64 B, .int .u64 K, .slice P n c] 67)).alloc (by simp) (.cells #[.int .u8 op] 5))
  have HI := Lib.hid ((InAt.at_ w w.heap.size op A B K (.slice P n c) 67 rfl).keep ((Below.refl _ _).alloc (Nat.le_refl _) (.cells #[.int .u8 op] 5)))
  have HO := Lib.hid (own_one (w.alloc (.cells #[.int .i64 op, .int .i64 A, .int .i64 B, .int .u64 K, .slice P n c] 67)) op (w.heap.size + 1) (by simp))
  obtain ⟨i0, ic0, ic1, ic2, ic3, ic4, if0, if1, if2, if3, if4⟩ := HI.out
  go_enter Tryz.func256, Tryz.ntmps256
  go_wp2_with fail
  refine (HK.out _ HW.out).mono ?_
  rintro en w2 ⟨rfl, hb⟩
  have HI := Lib.hid (HI.out.keep hb)
  have HO := Lib.hid (HO.out.keep hb)
  have HW := Lib.hid (HW.out.trans (hb.mono HW.out.size))
  clear hb
  clear i0 ic0 ic1 ic2 ic3 ic4 if0 if1 if2 if3 if4
  obtain ⟨i0, ic0, ic1, ic2, ic3, ic4, if0, if1, if2, if3, if4⟩ := HI.out
  have HLn : Hid (([op] : List Int).length ≤ 10000000) := by show _ ≤ _; simp
  have HLo : Hid (w.heap.size + 1 ≤ w2.heap.size) := by show _ ≤ _; have := HI.out.lt; omega
  have HLw : Hid (w.heap.size ≤ w.heap.size + 1) := Nat.le_succ _
  go_wp2_with (at_builtin; refine Leb.wp_byte w2 rfl (.tmp 75) (.tmp 76) rfl _ _ ([op]) (0) rfl HO.out rfl (by have := HLn.out; omega) (by first | exact HLo.out | exact Nat.le_refl _) ?_; intro v9 w9 ho9 hb9; have HO9 := Lib.hid ho9; have HW := Lib.hid (HW.out.trans (hb9.mono HLw.out)); obtain ⟨⟨g9, d9, rfl⟩, _⟩ := id ho9; clear ho9 hb9; go_wp2_with fail)
  have HS := own_slI HO9.out
  exact bodyPost_ret (v := .slice (some ⟨g9, 0, none⟩) ([op] ++ [0]).length d9) (by simp [results, Tryz.results256, go_sem]) rfl ⟨_, rfl, HS, HW.out⟩
theorem plaid_2 (op A B K : Int) (P : Option Addr) (n c : Nat) (w : World) (y : Int)
    (wo : IntKind.u8.wrap op = op)
    (hK : ∀ W, Below w.heap.size w W → Calls Tryz.prog 266 #[.int .i64 op] W fun en w' => en = .returned (.int .i64 2) ∧ Below W.heap.size W w')
    (hR : ∀ W, Calls Tryz.prog 278 #[.int .i64 A] W fun en w' => en = .returned (.int .u8 y) ∧ W = w') :
    Calls Tryz.prog 256 #[.agg #[.int .i64 op, .int .i64 A, .int .i64 B, .int .u64 K, .slice P n c]] w (SlTold ([op] ++ [y]) w) := by
  have HK := Lib.hid hK
  have HR := Lib.hid hR
  clear hK hR
  have HW := Lib.hid (((Below.refl w.heap.size w).alloc (Nat.le_refl _) (.cells #[.int .i64 op, .int .i64 A, .int .i64 B, .int .u64 K, .slice P n c] 67)).alloc (by simp) (.cells #[.int .u8 op] 5))
  have HI := Lib.hid ((InAt.at_ w w.heap.size op A B K (.slice P n c) 67 rfl).keep ((Below.refl _ _).alloc (Nat.le_refl _) (.cells #[.int .u8 op] 5)))
  have HO := Lib.hid (own_one (w.alloc (.cells #[.int .i64 op, .int .i64 A, .int .i64 B, .int .u64 K, .slice P n c] 67)) op (w.heap.size + 1) (by simp))
  obtain ⟨i0, ic0, ic1, ic2, ic3, ic4, if0, if1, if2, if3, if4⟩ := HI.out
  go_enter Tryz.func256, Tryz.ntmps256
  go_wp2_with fail
  refine (HK.out _ HW.out).mono ?_
  rintro en w2 ⟨rfl, hb⟩
  have HI := Lib.hid (HI.out.keep hb)
  have HO := Lib.hid (HO.out.keep hb)
  have HW := Lib.hid (HW.out.trans (hb.mono HW.out.size))
  clear hb
  clear i0 ic0 ic1 ic2 ic3 ic4 if0 if1 if2 if3 if4
  obtain ⟨i0, ic0, ic1, ic2, ic3, ic4, if0, if1, if2, if3, if4⟩ := HI.out
  go_wp2_with fail
  refine (HR.out _).mono ?_
  rintro en wr ⟨rfl, rfl⟩
  have HLn : Hid (([op] : List Int).length ≤ 10000000) := by show _ ≤ _; simp
  have HLo : Hid (w.heap.size + 1 ≤ w2.heap.size) := by show _ ≤ _; have := HI.out.lt; omega
  have HLw : Hid (w.heap.size ≤ w.heap.size + 1) := Nat.le_succ _
  go_wp2_with (at_builtin; refine Leb.wp_byte w2 rfl (.tmp 15) (.tmp 19) rfl _ _ ([op]) (y) rfl HO.out rfl (by have := HLn.out; omega) (by first | exact HLo.out | exact Nat.le_refl _) ?_; intro v9 w9 ho9 hb9; have HO9 := Lib.hid ho9; have HW := Lib.hid (HW.out.trans (hb9.mono HLw.out)); obtain ⟨⟨g9, d9, rfl⟩, _⟩ := id ho9; clear ho9 hb9; go_wp2_with fail)
  have HS := own_slI HO9.out
  exact bodyPost_ret (v := .slice (some ⟨g9, 0, none⟩) ([op] ++ [y]).length d9) (by simp [results, Tryz.results256, go_sem]) rfl ⟨_, rfl, HS, HW.out⟩
theorem plaid_3 (op A B K : Int) (P : Option Addr) (n c : Nat) (w : World) (L1 : List Int)
    (wo : IntKind.u8.wrap op = op)
    (hK : ∀ W, Below w.heap.size w W → Calls Tryz.prog 266 #[.int .i64 op] W fun en w' => en = .returned (.int .i64 3) ∧ Below W.heap.size W w')
    (wa : IntKind.u64.wrap A = A)
    (h1 : ∀ W v, Sl W v [op] → Calls Tryz.prog 69 #[v, .int .u64 A] W (Leb.Laid W L1)) :
    Calls Tryz.prog 256 #[.agg #[.int .i64 op, .int .i64 A, .int .i64 B, .int .u64 K, .slice P n c]] w (SlTold (L1) w) := by
  have HK := Lib.hid hK
  have H1 := Lib.hid h1
  clear hK h1
  have HW := Lib.hid (((Below.refl w.heap.size w).alloc (Nat.le_refl _) (.cells #[.int .i64 op, .int .i64 A, .int .i64 B, .int .u64 K, .slice P n c] 67)).alloc (by simp) (.cells #[.int .u8 op] 5))
  have HI := Lib.hid ((InAt.at_ w w.heap.size op A B K (.slice P n c) 67 rfl).keep ((Below.refl _ _).alloc (Nat.le_refl _) (.cells #[.int .u8 op] 5)))
  have HO := Lib.hid (own_one (w.alloc (.cells #[.int .i64 op, .int .i64 A, .int .i64 B, .int .u64 K, .slice P n c] 67)) op (w.heap.size + 1) (by simp))
  obtain ⟨i0, ic0, ic1, ic2, ic3, ic4, if0, if1, if2, if3, if4⟩ := HI.out
  go_enter Tryz.func256, Tryz.ntmps256
  go_wp2_with fail
  refine (HK.out _ HW.out).mono ?_
  rintro en w2 ⟨rfl, hb⟩
  have HI := Lib.hid (HI.out.keep hb)
  have HO := Lib.hid (HO.out.keep hb)
  have HW := Lib.hid (HW.out.trans (hb.mono HW.out.size))
  clear hb
  clear i0 ic0 ic1 ic2 ic3 ic4 if0 if1 if2 if3 if4
  obtain ⟨i0, ic0, ic1, ic2, ic3, ic4, if0, if1, if2, if3, if4⟩ := HI.out
  go_wp2_with fail
  refine (H1.out _ _ (own_slI HO.out)).mono ?_
  rintro en w3 ⟨v3, rfl, ho, hb⟩
  have HO := Lib.hid ho
  clear ho
  have HI := Lib.hid (HI.out.keep hb)
  have HW := Lib.hid (HW.out.trans (hb.mono HW.out.size))
  clear hb
  clear i0 ic0 ic1 ic2 ic3 ic4 if0 if1 if2 if3 if4
  obtain ⟨i0, ic0, ic1, ic2, ic3, ic4, if0, if1, if2, if3, if4⟩ := HI.out
  obtain ⟨⟨g3, d3, rfl⟩, _⟩ := id HO.out
  go_wp2_with fail
  have HS := own_slI HO.out
  exact bodyPost_ret (v := .slice (some ⟨g3, 0, none⟩) L1.length d3) (by simp [results, Tryz.results256, go_sem]) rfl ⟨_, rfl, HS, HW.out⟩
theorem plaid_5 (op A B K : Int) (P : Option Addr) (n c : Nat) (w : World) (L1 : List Int)
    (wo : IntKind.u8.wrap op = op)
    (hK : ∀ W, Below w.heap.size w W → Calls Tryz.prog 266 #[.int .i64 op] W fun en w' => en = .returned (.int .i64 5) ∧ Below W.heap.size W w')
    (wa : IntKind.u64.wrap A = A)
    (hL : L1.length ≤ 10000)
    (h1 : ∀ W v, Sl W v [op] → Calls Tryz.prog 69 #[v, .int .u64 A] W (Leb.Laid W L1)) :
    Calls Tryz.prog 256 #[.agg #[.int .i64 op, .int .i64 A, .int .i64 B, .int .u64 K, .slice P n c]] w (SlTold (L1 ++ [0]) w) := by
  have HK := Lib.hid hK
  have HL := Lib.hid hL
  have H1 := Lib.hid h1
  clear hK hL h1
  have HW := Lib.hid (((Below.refl w.heap.size w).alloc (Nat.le_refl _) (.cells #[.int .i64 op, .int .i64 A, .int .i64 B, .int .u64 K, .slice P n c] 67)).alloc (by simp) (.cells #[.int .u8 op] 5))
  have HI := Lib.hid ((InAt.at_ w w.heap.size op A B K (.slice P n c) 67 rfl).keep ((Below.refl _ _).alloc (Nat.le_refl _) (.cells #[.int .u8 op] 5)))
  have HO := Lib.hid (own_one (w.alloc (.cells #[.int .i64 op, .int .i64 A, .int .i64 B, .int .u64 K, .slice P n c] 67)) op (w.heap.size + 1) (by simp))
  obtain ⟨i0, ic0, ic1, ic2, ic3, ic4, if0, if1, if2, if3, if4⟩ := HI.out
  go_enter Tryz.func256, Tryz.ntmps256
  go_wp2_with fail
  refine (HK.out _ HW.out).mono ?_
  rintro en w2 ⟨rfl, hb⟩
  have HI := Lib.hid (HI.out.keep hb)
  have HO := Lib.hid (HO.out.keep hb)
  have HW := Lib.hid (HW.out.trans (hb.mono HW.out.size))
  clear hb
  clear i0 ic0 ic1 ic2 ic3 ic4 if0 if1 if2 if3 if4
  obtain ⟨i0, ic0, ic1, ic2, ic3, ic4, if0, if1, if2, if3, if4⟩ := HI.out
  go_wp2_with fail
  refine (H1.out _ _ (own_slI HO.out)).mono ?_
  rintro en w3 ⟨v3, rfl, ho, hb⟩
  have HLq : Hid (w.heap.size ≤ w2.heap.size) := HW.out.size
  have HB2 := Lib.hid hb
  have HO := Lib.hid ho
  clear ho
  have HI := Lib.hid (HI.out.keep hb)
  have HW := Lib.hid (HW.out.trans (hb.mono HW.out.size))
  clear hb
  clear i0 ic0 ic1 ic2 ic3 ic4 if0 if1 if2 if3 if4
  obtain ⟨i0, ic0, ic1, ic2, ic3, ic4, if0, if1, if2, if3, if4⟩ := HI.out
  obtain ⟨⟨g3, d3, rfl⟩, _⟩ := id HO.out
  have HLn : Hid (L1.length ≤ 10000000) := by show _ ≤ _; have := HL.out; omega
  have HLo : Hid (w2.heap.size ≤ w3.heap.size) := HB2.out.size
  have HLw : Hid (w.heap.size ≤ w2.heap.size) := by show _ ≤ _; have := HLq.out; omega
  go_wp2_with (at_builtin; refine Leb.wp_byte w3 rfl (.tmp 59) (.tmp 60) rfl _ _ (L1) (0) rfl HO.out rfl (by have := HLn.out; omega) (by first | exact HLo.out | exact Nat.le_refl _) ?_; intro v9 w9 ho9 hb9; have HO9 := Lib.hid ho9; have HW := Lib.hid (HW.out.trans (hb9.mono HLw.out)); obtain ⟨⟨g9, d9, rfl⟩, _⟩ := id ho9; clear ho9 hb9; go_wp2_with fail)
  have HS := own_slI HO9.out
  exact bodyPost_ret (v := .slice (some ⟨g9, 0, none⟩) (L1 ++ [0]).length d9) (by simp [results, Tryz.results256, go_sem]) rfl ⟨_, rfl, HS, HW.out⟩
theorem plaid_8 (op A B K : Int) (P : Option Addr) (n c : Nat) (w : World) (s : Int) (L1 : List Int)
    (wo : IntKind.u8.wrap op = op)
    (hK : ∀ W, Below w.heap.size w W → Calls Tryz.prog 266 #[.int .i64 op] W fun en w' => en = .returned (.int .i64 8) ∧ Below W.heap.size W w')
    (hV : ∀ W, Calls Tryz.prog 280 #[.int .u8 127, .int .u64 K] W fun en w' => en = .returned (.int .i64 s) ∧ W = w')
    (h1 : ∀ W v, Sl W v [op] → Calls Tryz.prog 279 #[v, .int .i64 s] W (Leb.Laid W L1)) :
    Calls Tryz.prog 256 #[.agg #[.int .i64 op, .int .i64 A, .int .i64 B, .int .u64 K, .slice P n c]] w (SlTold (L1) w) := by
  have HK := Lib.hid hK
  have HV := Lib.hid hV
  have H1 := Lib.hid h1
  clear hK hV h1
  have HW := Lib.hid (((Below.refl w.heap.size w).alloc (Nat.le_refl _) (.cells #[.int .i64 op, .int .i64 A, .int .i64 B, .int .u64 K, .slice P n c] 67)).alloc (by simp) (.cells #[.int .u8 op] 5))
  have HI := Lib.hid ((InAt.at_ w w.heap.size op A B K (.slice P n c) 67 rfl).keep ((Below.refl _ _).alloc (Nat.le_refl _) (.cells #[.int .u8 op] 5)))
  have HO := Lib.hid (own_one (w.alloc (.cells #[.int .i64 op, .int .i64 A, .int .i64 B, .int .u64 K, .slice P n c] 67)) op (w.heap.size + 1) (by simp))
  obtain ⟨i0, ic0, ic1, ic2, ic3, ic4, if0, if1, if2, if3, if4⟩ := HI.out
  go_enter Tryz.func256, Tryz.ntmps256
  go_wp2_with fail
  refine (HK.out _ HW.out).mono ?_
  rintro en w2 ⟨rfl, hb⟩
  have HI := Lib.hid (HI.out.keep hb)
  have HO := Lib.hid (HO.out.keep hb)
  have HW := Lib.hid (HW.out.trans (hb.mono HW.out.size))
  clear hb
  clear i0 ic0 ic1 ic2 ic3 ic4 if0 if1 if2 if3 if4
  obtain ⟨i0, ic0, ic1, ic2, ic3, ic4, if0, if1, if2, if3, if4⟩ := HI.out
  go_wp2_with fail
  refine (HV.out _).mono ?_
  rintro en wr ⟨rfl, rfl⟩
  go_wp2_with fail
  refine (H1.out _ _ (own_slI HO.out)).mono ?_
  rintro en w3 ⟨v3, rfl, ho, hb⟩
  have HO := Lib.hid ho
  clear ho
  have HI := Lib.hid (HI.out.keep hb)
  have HW := Lib.hid (HW.out.trans (hb.mono HW.out.size))
  clear hb
  clear i0 ic0 ic1 ic2 ic3 ic4 if0 if1 if2 if3 if4
  obtain ⟨i0, ic0, ic1, ic2, ic3, ic4, if0, if1, if2, if3, if4⟩ := HI.out
  obtain ⟨⟨g3, d3, rfl⟩, _⟩ := id HO.out
  go_wp2_with fail
  have HS := own_slI HO.out
  exact bodyPost_ret (v := .slice (some ⟨g3, 0, none⟩) L1.length d3) (by simp [results, Tryz.results256, go_sem]) rfl ⟨_, rfl, HS, HW.out⟩
theorem plaid_9 (op A B K : Int) (P : Option Addr) (n c : Nat) (w : World) (s : Int) (L1 : List Int)
    (wo : IntKind.u8.wrap op = op)
    (hK : ∀ W, Below w.heap.size w W → Calls Tryz.prog 266 #[.int .i64 op] W fun en w' => en = .returned (.int .i64 9) ∧ Below W.heap.size W w')
    (hV : ∀ W, Calls Tryz.prog 280 #[.int .u8 126, .int .u64 K] W fun en w' => en = .returned (.int .i64 s) ∧ W = w')
    (h1 : ∀ W v, Sl W v [op] → Calls Tryz.prog 279 #[v, .int .i64 s] W (Leb.Laid W L1)) :
    Calls Tryz.prog 256 #[.agg #[.int .i64 op, .int .i64 A, .int .i64 B, .int .u64 K, .slice P n c]] w (SlTold (L1) w) := by
  have HK := Lib.hid hK
  have HV := Lib.hid hV
  have H1 := Lib.hid h1
  clear hK hV h1
  have HW := Lib.hid (((Below.refl w.heap.size w).alloc (Nat.le_refl _) (.cells #[.int .i64 op, .int .i64 A, .int .i64 B, .int .u64 K, .slice P n c] 67)).alloc (by simp) (.cells #[.int .u8 op] 5))
  have HI := Lib.hid ((InAt.at_ w w.heap.size op A B K (.slice P n c) 67 rfl).keep ((Below.refl _ _).alloc (Nat.le_refl _) (.cells #[.int .u8 op] 5)))
  have HO := Lib.hid (own_one (w.alloc (.cells #[.int .i64 op, .int .i64 A, .int .i64 B, .int .u64 K, .slice P n c] 67)) op (w.heap.size + 1) (by simp))
  obtain ⟨i0, ic0, ic1, ic2, ic3, ic4, if0, if1, if2, if3, if4⟩ := HI.out
  go_enter Tryz.func256, Tryz.ntmps256
  go_wp2_with fail
  refine (HK.out _ HW.out).mono ?_
  rintro en w2 ⟨rfl, hb⟩
  have HI := Lib.hid (HI.out.keep hb)
  have HO := Lib.hid (HO.out.keep hb)
  have HW := Lib.hid (HW.out.trans (hb.mono HW.out.size))
  clear hb
  clear i0 ic0 ic1 ic2 ic3 ic4 if0 if1 if2 if3 if4
  obtain ⟨i0, ic0, ic1, ic2, ic3, ic4, if0, if1, if2, if3, if4⟩ := HI.out
  go_wp2_with fail
  refine (HV.out _).mono ?_
  rintro en wr ⟨rfl, rfl⟩
  go_wp2_with fail
  refine (H1.out _ _ (own_slI HO.out)).mono ?_
  rintro en w3 ⟨v3, rfl, ho, hb⟩
  have HO := Lib.hid ho
  clear ho
  have HI := Lib.hid (HI.out.keep hb)
  have HW := Lib.hid (HW.out.trans (hb.mono HW.out.size))
  clear hb
  clear i0 ic0 ic1 ic2 ic3 ic4 if0 if1 if2 if3 if4
  obtain ⟨i0, ic0, ic1, ic2, ic3, ic4, if0, if1, if2, if3, if4⟩ := HI.out
  obtain ⟨⟨g3, d3, rfl⟩, _⟩ := id HO.out
  go_wp2_with fail
  have HS := own_slI HO.out
  exact bodyPost_ret (v := .slice (some ⟨g3, 0, none⟩) L1.length d3) (by simp [results, Tryz.results256, go_sem]) rfl ⟨_, rfl, HS, HW.out⟩
end Go.Proofs.YtffegkjlgeblbaaGreatDoor.Ins
end

section
/- What the program lays of an instruction, kind by kind, B: two numbers; labels. -/
namespace Go.Proofs.YtffegkjlgeblbaaGreatDoor.Ins
open Go.RowKit Ints Typ
set_option maxRecDepth 100000
set_option maxHeartbeats 2000000
set_option linter.unusedVariables false

theorem prun_i1 (h : Nat) (W : World) : (Instr.fieldAt 67 (.pointer (some ⟨h, 0, none⟩)) 1).run Tryz.prog W = .ok (.pointer (some ⟨h, 1, none⟩)) W := by go_simp
theorem prun_i2 (h : Nat) (W : World) : (Instr.fieldAt 67 (.pointer (some ⟨h, 0, none⟩)) 2).run Tryz.prog W = .ok (.pointer (some ⟨h, 2, none⟩)) W := by go_simp
theorem prun_cv (x : Int) (W : World) (h : IntKind.u64.wrap x = x) : (convert 3 65 (.int .i64 x)).run Tryz.prog W = .ok (.int .u64 x) W := by go_simp
theorem sl_stays (L : List Int) : Stab.Stays (fun v w => Sl w v L) := fun _ _ _ h hb => Sl.keep h hb
theorem plaid_6 (op A B K : Int) (P : Option Addr) (n c : Nat) (w : World) (L1 L2 : List Int)
    (wo : IntKind.u8.wrap op = op)
    (hK : ∀ W, Below w.heap.size w W → Calls Tryz.prog 266 #[.int .i64 op] W fun en w' => en = .returned (.int .i64 6) ∧ Below W.heap.size W w')
    (wa : IntKind.u64.wrap A = A) (wb : IntKind.u64.wrap B = B)
    (h1 : ∀ W v, Sl W v [op] → Calls Tryz.prog 69 #[v, .int .u64 A] W (Leb.Laid W L1))
    (h2 : ∀ W v, Sl W v L1 → Calls Tryz.prog 69 #[v, .int .u64 B] W (Leb.Laid W L2)) :
    Calls Tryz.prog 256 #[.agg #[.int .i64 op, .int .i64 A, .int .i64 B, .int .u64 K, .slice P n c]] w (SlTold L2 w) := by
  have HK := Lib.hid hK
  have H1 := Lib.hid h1
  have H2 := Lib.hid h2
  have WA := Lib.hid wa
  have WB := Lib.hid wb
  clear hK h1 h2 wa wb
  have HW := Lib.hid (((Below.refl w.heap.size w).alloc (Nat.le_refl _) (.cells #[.int .i64 op, .int .i64 A, .int .i64 B, .int .u64 K, .slice P n c] 67)).alloc (by simp) (.cells #[.int .u8 op] 5))
  have HI := Lib.hid ((InAt.at_ w w.heap.size op A B K (.slice P n c) 67 rfl).keep ((Below.refl _ _).alloc (Nat.le_refl _) (.cells #[.int .u8 op] 5)))
  have HO := Lib.hid (own_one (w.alloc (.cells #[.int .i64 op, .int .i64 A, .int .i64 B, .int .u64 K, .slice P n c] 67)) op (w.heap.size + 1) (by simp))
  obtain ⟨i0, ic0, ic1, ic2, ic3, ic4, if0, if1, if2, if3, if4⟩ := HI.out
  go_enter Tryz.func256, Tryz.ntmps256
  go_wp2_with fail
  refine (HK.out _ HW.out).mono ?_
  rintro en w2 ⟨rfl, hb⟩
  have HI := Lib.hid (HI.out.keep hb)
  have HO := Lib.hid (HO.out.keep hb)
  have HW := Lib.hid (HW.out.trans (hb.mono HW.out.size))
  clear hb
  clear i0 ic0 ic1 ic2 ic3 ic4 if0 if1 if2 if3 if4
  go_wp2_with fail
  refine Stab.region 93 [.is (.slice (some ⟨w.heap.size + 1, 0, none⟩) 1 1), .is (.pointer (some ⟨w.heap.size, 1, none⟩)), .is (.int .i64 A), .is (.int .u64 A), .fits (fun v w => Sl w v L1), .is (.pointer (some ⟨w.heap.size, 2, none⟩)), .is (.int .i64 B), .is (.int .u64 B), .fits (fun v w => Sl w v L2), .fits (fun v w => Sl w v L2)] (by kernel_rfl) (by kernel_rfl) rfl rfl ?_ ?_
  · with_reducible refine Stab.steps_cons ?_ ?_ ?_
    · exact Stab.owes_move rfl rfl rfl
    · exact trivial
    with_reducible refine Stab.steps_cons ?_ ?_ ?_
    · exact Stab.owes_fieldAt rfl rfl (fun W => prun_i1 _ W) rfl
    · exact trivial
    with_reducible refine Stab.steps_cons ?_ ?_ ?_
    · exact Stab.owes_load rfl (fun v W hb hv => by subst hv; exact run_li _ _ _ W (HI.out.keep hb).c1) rfl
    · exact trivial
    with_reducible refine Stab.steps_cons ?_ ?_ ?_
    · exact Stab.owes_convert rfl (fun v W hb hv => by subst hv; exact prun_cv _ W WA.out) rfl
    · exact trivial
    with_reducible refine Stab.steps_cons ?_ ?_ ?_
    · (refine Stab.owes_call Tryz.func69 (by kernel_rfl) (by kernel_rfl) rfl (fun vs W hb hall => ?_) rfl; obtain ⟨_, _, rfl, rfl, _, _, rfl, rfl, rfl⟩ := hall; refine (H1.out W _ (own_slI (HO.out.keep hb))).mono ?_; rintro e w2 ⟨v2, rfl, ho2, hb2⟩; exact ⟨v2, rfl, hb2, own_slI ho2⟩)
    · exact sl_stays L1
    with_reducible refine Stab.steps_cons ?_ ?_ ?_
    · exact Stab.owes_fieldAt rfl rfl (fun W => prun_i2 _ W) rfl
    · exact trivial
    with_reducible refine Stab.steps_cons ?_ ?_ ?_
    · exact Stab.owes_load rfl (fun v W hb hv => by subst hv; exact run_li _ _ _ W (HI.out.keep hb).c2) rfl
    · exact trivial
    with_reducible refine Stab.steps_cons ?_ ?_ ?_
    · exact Stab.owes_convert rfl (fun v W hb hv => by subst hv; exact prun_cv _ W WB.out) rfl
    · exact trivial
    with_reducible refine Stab.steps_cons ?_ ?_ ?_
    · (refine Stab.owes_call Tryz.func69 (by kernel_rfl) (by kernel_rfl) rfl (fun vs W hb hall => ?_) rfl; obtain ⟨v1, _, rfl, hv1, _, _, rfl, rfl, rfl⟩ := hall; refine (H2.out W v1 hv1).mono ?_; rintro e w2 ⟨v2, rfl, ho2, hb2⟩; exact ⟨v2, rfl, hb2, own_slI ho2⟩)
    · exact sl_stays L2
    with_reducible refine Stab.steps_cons ?_ ?_ ?_
    · exact Stab.owes_assign rfl rfl rfl
    · exact sl_stays L2
    exact Stab.steps_nil
  · intro v1 v2 v3 W hb hI
    obtain ⟨h3, h2, h1, _⟩ := hI
    simp only [Act.put, List.setIfInBounds_toArray, List.set_cons_succ, List.set_cons_zero]
    have HS := Lib.hid h3
    have HW := Lib.hid (HW.out.trans (hb.mono HW.out.size))
    obtain ⟨A3, c3, rfl, _⟩ := id h3
    clear h1 h2 h3 hb
    go_wp2_with fail
    exact bodyPost_ret (v := .slice A3 L2.length c3) (by simp [results, Tryz.results256, go_sem]) rfl ⟨_, rfl, HS.out, HW.out⟩
def uLs (L : List Int) : List Int := L.flatMap fun v => Leb.uB v.toNat
theorem uLs_take {L : List Int} {k : Nat} (h : k < L.length) : uLs (L.take k) ++ Leb.uB (L.getD k 0).toNat = uLs (L.take (k + 1)) := by
  have e : L.getD k 0 = L[k] := by rw [List.getD_eq_getElem?_getD, List.getElem?_eq_getElem h]; rfl
  unfold uLs
  rw [List.take_succ_eq_append_getElem h, List.flatMap_append, e]
  simp
theorem uLs_len : ∀ (L : List Int), L.all okN = true → (uLs L).length ≤ 10 * L.length
  | [], _ => by simp [uLs]
  | v :: L, h => by
    rw [List.all_cons, Bool.and_eq_true] at h
    have h1 := uLs_len L h.2
    have hv : 0 ≤ v ∧ v ≤ 4294967295 := by have := h.1; unfold okN at this; simpa using this
    have h2 : (Leb.uB v.toNat).length ≤ 10 := by rw [Leb.uB_len]; exact (Leb.lenU_ten (by omega))
    have e : uLs (v :: L) = Leb.uB v.toNat ++ uLs L := rfl
    rw [e, List.length_append, List.length_cons]
    omega
theorem plaid_4 (op A B K : Int) (P : Option Addr) (n c : Nat) (w : World) (L : List Int) (L1 L2 : List Int) (hn : L.length = n) (hx : SlI w (.slice P n c) L) (hall : L.all okN = true)
    (wo : IntKind.u8.wrap op = op)
    (hK : ∀ W, Below w.heap.size w W → Calls Tryz.prog 266 #[.int .i64 op] W fun en w' => en = .returned (.int .i64 4) ∧ Below W.heap.size W w')
    (wa : IntKind.u64.wrap A = A) (wn : IntKind.u64.wrap (n : Int) = (n : Int)) (hn64 : n ≤ 64)
    (h1 : ∀ W v, Sl W v [op] → Calls Tryz.prog 69 #[v, .int .u64 (n : Int)] W (Leb.Laid W L1))
    (h2 : ∀ W v k, k < n → Sl W v (L1 ++ uLs (L.take k)) → Calls Tryz.prog 69 #[v, .int .u64 (L.getD k 0)] W (Leb.Laid W (L1 ++ uLs (L.take (k + 1)))))
    (h3 : ∀ W v, Sl W v (L1 ++ uLs L) → Calls Tryz.prog 69 #[v, .int .u64 A] W (Leb.Laid W L2)) :
    Calls Tryz.prog 256 #[.agg #[.int .i64 op, .int .i64 A, .int .i64 B, .int .u64 K, .slice P n c]] w (SlTold L2 w) := by
  have HK := Lib.hid hK
  have H1 := Lib.hid h1
  have H2 := Lib.hid h2
  have H3 := Lib.hid h3
  have N1 := Lib.hid hn
  have HX := Lib.hid hx
  have HALL := Lib.hid hall
  clear hK h1 h2 h3 hn hx hall
  have HW := Lib.hid (((Below.refl w.heap.size w).alloc (Nat.le_refl _) (.cells #[.int .i64 op, .int .i64 A, .int .i64 B, .int .u64 K, .slice P n c] 67)).alloc (by simp) (.cells #[.int .u8 op] 5))
  have HI := Lib.hid ((InAt.at_ w w.heap.size op A B K (.slice P n c) 67 rfl).keep ((Below.refl _ _).alloc (Nat.le_refl _) (.cells #[.int .u8 op] 5)))
  have HO := Lib.hid (own_one (w.alloc (.cells #[.int .i64 op, .int .i64 A, .int .i64 B, .int .u64 K, .slice P n c] 67)) op (w.heap.size + 1) (by simp))
  obtain ⟨i0, ic0, ic1, ic2, ic3, ic4, if0, if1, if2, if3, if4⟩ := HI.out
  go_enter Tryz.func256, Tryz.ntmps256
  go_wp2_with fail
  refine (HK.out _ HW.out).mono ?_
  rintro en w2 ⟨rfl, hb⟩
  have HI := Lib.hid (HI.out.keep hb)
  have HO := Lib.hid (HO.out.keep hb)
  have HW := Lib.hid (HW.out.trans (hb.mono HW.out.size))
  clear hb
  clear i0 ic0 ic1 ic2 ic3 ic4 if0 if1 if2 if3 if4
  obtain ⟨i0, ic0, ic1, ic2, ic3, ic4, if0, if1, if2, if3, if4⟩ := HI.out
  go_wp2_with fail
  refine (H1.out _ _ (own_slI HO.out)).mono ?_
  rintro en w3 ⟨v3, rfl, ho, hb⟩
  have HS := Lib.hid (own_slI ho)
  have HI := Lib.hid (HI.out.keep hb)
  have HW := Lib.hid (HW.out.trans (hb.mono HW.out.size))
  clear ho hb i0 ic0 ic1 ic2 ic3 ic4 if0 if1 if2 if3 if4
  obtain ⟨i0, ic0, ic1, ic2, ic3, ic4, if0, if1, if2, if3, if4⟩ := HI.out
  go_wp2_with fail
  clear i0 ic0 ic1 ic2 ic3 ic4 if0 if1 if2 if3 if4
  go_loopw [3, 39] (fun v' j' wr => ∃ k : Nat, j' = .int .i64 (k : Int) ∧ k ≤ n ∧ Sl wr v' (L1 ++ uLs (L.take k)) ∧ InAt wr w.heap.size op A B K (.slice P n c) ∧ Below w.heap.size w wr) (fun _ j' _ => n - (intOf j').toNat)
  case atStart => exact ⟨0, rfl, Nat.zero_le _, by rw [show uLs (L.take 0) = [] from rfl, List.append_nil]; exact HS.out, HI.out, HW.out⟩
  case round =>
    clear HS HI HW
    obtain ⟨k, rfl, hk, hS, hI, hW⟩ := hrel
    have HSr := Lib.hid hS
    have HIr := Lib.hid hI
    have HWr := Lib.hid hW
    clear hS hI hW
    obtain ⟨i0, ic0, ic1, ic2, ic3, ic4, if0, if1, if2, if3, if4⟩ := HIr.out
    by_cases hlt : k < n
    · have HXW := Lib.hid (HX.out.keep HWr.out)
      obtain ⟨g1, p1, rfl, hc1⟩ := HXW.out.at_ (j := k) (by rw [N1.out]; exact hlt)
      have hin1 : (0 : Int) ≤ (k : Int) := by omega
      have hin2 : (k : Int) < (n : Int) := by omega
      have HC := Lib.hid (H2.out wr _ k hlt HSr.out)
      have hu0 : 0 ≤ L.getD k 0 ∧ L.getD k 0 ≤ 4294967295 := by
        have h1 := List.all_eq_true.1 HALL.out (L.getD k 0) (by rw [List.getD_eq_getElem?_getD, List.getElem?_eq_getElem (by rw [N1.out]; exact hlt)]; simp)
        unfold okN at h1
        simpa using h1
      generalize L.getD k 0 = u at *
      have hwu : IntKind.u64.wrap u = u := by rw [IntKind.wrap_u64]; omega
      go_wp2_with fail
      refine HC.out.mono ?_
      rintro en w4 ⟨v4, rfl, ho, hb⟩
      have HS4 := Lib.hid (own_slI ho)
      have HI4 := Lib.hid (HIr.out.keep hb)
      have HW4 := Lib.hid (HWr.out.trans (hb.mono HWr.out.size))
      clear ho hb
      go_wp2_with fail
      go_roundw
      case rel => exact ⟨k + 1, by go_num, hlt, HS4.out, HI4.out, HW4.out⟩
      case measure => simp [intOf]; omega
    · obtain rfl : k = n := by omega
      have HT := HSr.out
      rw [List.take_of_length_le (by rw [N1.out]; exact Nat.le_refl _)] at HT
      have HT := Lib.hid HT
      go_wp2_with fail
      refine (H3.out _ _ HT.out).mono ?_
      rintro en w4 ⟨v4, rfl, ho, hb⟩
      have HS4 := own_slI ho
      have HWs := Lib.hid (HWr.out.trans (hb.mono HWr.out.size))
      obtain ⟨⟨g4, d4, rfl⟩, _⟩ := id ho
      clear ho hb
      go_wp2_with fail
      exact bodyPost_ret (v := .slice (some ⟨g4, 0, none⟩) L2.length d4) (by simp [results, Tryz.results256, go_sem]) rfl ⟨_, rfl, HS4, HWs.out⟩
end Go.Proofs.YtffegkjlgeblbaaGreatDoor.Ins
end
