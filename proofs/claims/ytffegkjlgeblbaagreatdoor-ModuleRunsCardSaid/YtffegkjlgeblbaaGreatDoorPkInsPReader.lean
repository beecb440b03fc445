/- InsPKind, InsCat, InsPReader. -/
import Derived.Test.YtffegkjlgeblbaaGreatDoorPkInsSame
import Derived.BigQuiet
import Derived.Test.YtffegkjlgeblbaaGreatDoorLebTwo
import Derived.Test.YtffegkjlgeblbaaGreatDoorLebOne
import Derived.Test.YtffegkjlgeblbaaGreatDoorStabAll
import Derived.Lib.AppendZerosOnto
import Derived.Lib.SliceRun
section
/- The program's tables, and what it reads of them: kinds, accesses. -/
namespace Go.Proofs.YtffegkjlgeblbaaGreatDoor.Ins
open Go.RowKit Ints Typ
set_option maxRecDepth 100000
set_option maxHeartbeats 1000000

/-- The table of kinds stands in its variable. -/
def KTab (w : World) : Prop := 1 < w.heap.size ∧ ∀ r : Nat, r < 174 → w.cell? ⟨1, r, none⟩ = some (.int .u8 (kd (r : Int)))
theorem KTab.keep {w w' : World} (h : KTab w) (hb : Below w.heap.size w w') : KTab w' :=
  ⟨Nat.lt_of_lt_of_le h.1 hb.size, fun r hr => by rw [hb.cell (p := ⟨1, r, none⟩) h.1]; exact h.2 r hr⟩
theorem kind_low (op : Int) (w : World) (h : op < 0) : Calls Tryz.prog 266 #[.int .i64 op] w fun e w' => e = .returned (.int .i64 0) ∧ w = w' := by
  have t1 : decide (op < 0) = true := by simp; omega
  clear h
  go_enter Tryz.func266, Tryz.ntmps266
  go_wp2_with fail
  go_ret
  exact ⟨rfl, rfl⟩
theorem kind_high (op : Int) (w : World) (h : 173 < op) : Calls Tryz.prog 266 #[.int .i64 op] w fun e w' => e = .returned (.int .i64 0) ∧ w = w' := by
  have t1 : decide (op < 0) = false := by simp; omega
  have t2 : decide (174 ≤ op) = true := by simp; omega
  clear h
  go_enter Tryz.func266, Tryz.ntmps266
  go_wp2_with fail
  go_ret
  exact ⟨rfl, rfl⟩
theorem kind_in (r : Nat) (k : Int) (w : World) (h : r < 174) (k0 : 0 ≤ k) (k1 : k ≤ 9) (hc : w.cell? ⟨1, r, none⟩ = some (.int .u8 k)) : Calls Tryz.prog 266 #[.int .i64 (r : Int)] w fun e w' => e = .returned (.int .i64 k) ∧ w = w' := by
  have t1 : decide ((r : Int) < 0) = false := by simp
  have t2 : decide (174 ≤ (r : Int)) = false := by simp; omega
  have t3 : IntKind.i64.wrap k = k := IntWalk.i64_in _ (by omega)
  go_enter Tryz.func266, Tryz.ntmps266
  go_wp2_with fail
  go_ret
  exact ⟨rfl, rfl⟩
/-- A code's kind, by the program. -/
theorem kind_any (op : Int) (w : World) (hT : KTab w) : Calls Tryz.prog 266 #[.int .i64 op] w fun e w' => e = .returned (.int .i64 (kd op)) ∧ w = w' := by
  by_cases h0 : op < 0
  · rw [kd_low h0]; exact kind_low op w h0
  · by_cases h1 : 173 < op
    · rw [kd_high h1]; exact kind_high op w h1
    · obtain ⟨r, rfl⟩ := Int.eq_ofNat_of_zero_le (show 0 ≤ op by omega)
      exact kind_in r _ w (by omega) (kd_range _).1 (kd_range _).2 (hT.2 r (by omega))
theorem kind_told (op : Int) (w : World) (hT : KTab w) : Calls Tryz.prog 266 #[.int .i64 op] w (KdTold op w) := (kind_any op w hT).mono fun _e _w' ⟨h1, h2⟩ => ⟨h1, h2 ▸ Below.refl _ _⟩
end Go.Proofs.YtffegkjlgeblbaaGreatDoor.Ins
end

section
/- slices.Grow of nil, slices.Concat of two lists of bytes: the library's own text, walked. -/
namespace Go.Proofs.YtffegkjlgeblbaaGreatDoor.Typ
open Go.RowKit
set_option maxRecDepth 100000
set_option maxHeartbeats 1000000

theorem run_zeros (w : World) (ty : TypeId) (n : Nat) (h0 : 0 < n) (hn : n ≤ 10000000) :
    (Builtin.append_ #[22, 3] ty #[.slice none 0 0, .int .i64 (n : Int)]).run Tryz.prog w =
      .ok (.slice (some ⟨w.heap.size, 0, none⟩) n (grownCap w n 0 5)) (w.drew.alloc (.cells ((#[] : Array Value) ++ Builtin.zeroCells (Value.int .u8 0).cells n ++ Builtin.zeroCells (Value.int .u8 0).cells (grownCap w n 0 5 - n)) 5)) := by
  obtain ⟨i0, hi, hz0, hz1, hz2⟩ := info_parts byte_info
  have h := Lib.run_append_grow_zeros (P := Tryz.prog) w 22 3 ty 5 i0 (.int .u8 0) .i64 .i64 Tryz.underlying22 Tryz.underlying3 hi hz0 none 0 0 [] (run_firstCells_none w.drew i0.size 0 0 0) n h0 (by rw [hz1]; omega) (by omega) (by omega) (by rw [hz2]; omega) (by rw [hz2]; exact growslice_fits (by omega) (by omega))
  rw [Nat.zero_add] at h
  exact h
/-- New bytes, none, with room. -/
theorem own_room (w : World) (c : Nat) (cs : Array Value) (hsz : cs.size = c) (hc : c ≤ maxLen) : Leb.Own (w.alloc (.cells cs 5)) w.heap.size (.slice (some ⟨w.heap.size, 0, none⟩) 0 c) [] :=
  ⟨⟨_, _, rfl⟩, by simp [Leb.vb], .inr ⟨_, _, _, rfl, Nat.le_refl _, heap_alloc_new w _, Nat.zero_le _, hc, by omega, by simp [Leb.vb]⟩⟩
theorem grow_nil (n : Nat) (w : World) (h0 : 0 < n) (hn : n ≤ 1000000) : Calls Tryz.prog 250 #[.slice none 0 0, .int .i64 (n : Int)] w (Leb.Laid w []) := by
  have hz := run_zeros w
  have hge := grownCap_ge w n 0 5
  have hm := grownCap_le_maxLen w n 0 5 (by unfold maxLen; omega)
  have t0 : decide ((n : Int) < 0) = false := by simp
  have t1 : decide ((0 : Int) < (n : Int)) = true := by simp; omega
  have HZ := Lib.hid (fun ty => run_zeros w ty n h0 (by omega))
  clear hz
  revert HZ
  generalize hG : grownCap w n 0 5 = G at *
  intro HZ
  clear hG
  go_enter Tryz.func250, Tryz.ntmps250
  go_wp2_with (at_builtin; refine Lib.wpList_append_run _ rfl _ _ _ _ rfl _ _ rfl rfl _ _ (HZ.out _) ?_)
  go_ret
  refine ⟨_, rfl, ?_, ((Below.refl _ _).alloc (Nat.le_refl _) _).drew⟩
  exact own_room w G _ (by simp [Builtin.zeroCells]; omega) hm
theorem concat_any (g : Nat) (A1 A2 : Option Addr) (c1 c2 : Nat) (l1 l2 : List Int) (w : World) (hX : w.cell? ⟨g, 0, none⟩ = some (.slice A1 l1.length c1)) (hY : w.cell? ⟨g, 1, none⟩ = some (.slice A2 l2.length c2)) (hg : g < w.heap.size)
    (h1 : Leb.Byt w w.heap.size A1 l1) (h2 : Leb.Byt w w.heap.size A2 l2) (hl1 : l1.length ≤ 100000) (hl2 : l2.length ≤ 100000) (hpos : 0 < l1.length + l2.length) :
    Calls Tryz.prog 226 #[.slice (some ⟨g, 0, none⟩) 2 2] w (Leb.Laid w (l1 ++ l2)) := by
  have H1 := Lib.hid h1
  have H2 := Lib.hid h2
  have HG := Lib.hid (grow_nil (l1.length + l2.length) w hpos (by omega))
  have HX := Lib.hid (fun W (hW : Below w.heap.size w W) => (hW.cell (p := ⟨g, 0, none⟩) hg).trans hX)
  have HY := Lib.hid (fun W (hW : Below w.heap.size w W) => (hW.cell (p := ⟨g, 1, none⟩) hg).trans hY)
  have t0 : decide ((l1.length : Int) < 0) = false := by simp
  have t1 : decide ((l1.length : Int) + (l2.length : Int) < 0) = false := by simp; omega
  have hw : IntKind.i64.wrap ((l1.length : Int) + (l2.length : Int)) = (l1.length : Int) + (l2.length : Int) := IntWalk.i64_in _ (by omega)
  clear h1 h2
  go_enter Tryz.func226, Tryz.ntmps226
  go_wp2_with fail
  go_loop [3, 11] (fun s i => (i = .int .i64 0 ∧ s = .int .i64 0) ∨ (i = .int .i64 1 ∧ s = .int .i64 (l1.length : Int)) ∨ (i = .int .i64 2 ∧ s = .int .i64 ((l1.length : Int) + (l2.length : Int)))) (fun _ i => 2 - (intOf i).toNat)
  case atStart => exact .inl ⟨rfl, rfl⟩
  case round =>
    rcases hrel with ⟨rfl, rfl⟩ | ⟨rfl, rfl⟩ | ⟨rfl, rfl⟩
    · go_wp2_with fail
      go_round
      case rel => exact .inr (.inl ⟨rfl, rfl⟩)
      case measure => simp [intOf]
    · go_wp2_with fail
      go_round
      case rel => exact .inr (.inr ⟨rfl, rfl⟩)
      case measure => simp [intOf]
    · clear hX hY
      go_wp2_with fail
      refine HG.out.mono ?_
      rintro e w1 ⟨v1, rfl, ho1, hb1⟩
      have HO1 := Lib.hid ho1
      have HB1 := Lib.hid hb1
      clear ho1 hb1
      go_wp2_with fail
      go_loopw [6, 27] (fun v i wr => Below w.heap.size w wr ∧ ((i = .int .i64 0 ∧ Leb.Own wr w.heap.size v []) ∨ (i = .int .i64 1 ∧ Leb.Own wr w.heap.size v l1) ∨ (i = .int .i64 2 ∧ Leb.Own wr w.heap.size v (l1 ++ l2)))) (fun _ i _ => 2 - (intOf i).toNat)
      case atStart => exact ⟨HB1.out, .inl ⟨rfl, HO1.out⟩⟩
      case round =>
        obtain ⟨hbel, hrel⟩ := hrel
        have hX := HX.out _ hbel
        have hY := HY.out _ hbel
        have HBel := Lib.hid hbel
        have hsz : w.heap.size ≤ wr.heap.size := hbel.size
        clear hbel
        rcases hrel with ⟨rfl, ho⟩ | ⟨rfl, ho⟩ | ⟨rfl, ho⟩
        · have HO := Lib.hid ho
          clear ho
          go_wp2_with (at_builtin; refine Leb.wp_bytes wr rfl (.tmp 31) (.tmp 32) rfl w.heap.size w.heap.size _ [] l1 rfl HO.out A1 c1 rfl (H1.out.keep HBel.out) (by simp; omega) hsz ?_; intro v2 w2 ho2 hb2)
          go_roundw
          case rel => exact ⟨HBel.out.trans hb2, .inr (.inl ⟨rfl, ho2⟩)⟩
          case measure => simp [intOf]
        · have HO := Lib.hid ho
          clear ho
          go_wp2_with (at_builtin; refine Leb.wp_bytes wr rfl (.tmp 31) (.tmp 32) rfl w.heap.size w.heap.size _ l1 l2 rfl HO.out A2 c2 rfl (H2.out.keep HBel.out) (by omega) hsz ?_; intro v2 w2 ho2 hb2)
          go_roundw
          case rel => exact ⟨HBel.out.trans hb2, .inr (.inr ⟨rfl, ho2⟩)⟩
          case measure => simp [intOf]
        · have HO := Lib.hid ho
          clear ho
          go_wp2_with fail
          go_ret
          exact ⟨_, rfl, HO.out, HBel.out⟩
end Go.Proofs.YtffegkjlgeblbaaGreatDoor.Typ
end

section
/- The program's reader: a byte, a fault, a number. -/
namespace Go.Proofs.YtffegkjlgeblbaaGreatDoor.Ins
open Go.RowKit Ints Typ
set_option maxRecDepth 100000
set_option maxHeartbeats 1000000

theorem pfail_at (err : Int) {w : World} {g : Nat} {v : Value} {a e : Int} (hR : RdAt w g v a e) :
    Calls Tryz.prog 284 #[.pointer (some ⟨g, 0, none⟩), .int .i64 err] w fun en w' => en = .returned (.tuple #[]) ∧ RdAt w' g v a (rf true e err) ∧ But g w w' := by
  have HR := Lib.hid hR
  obtain ⟨h0, c0, c1, c2, f0, f1, f2⟩ := hR
  by_cases he : e = 0
  · subst he
    rw [show rf true 0 err = err from rfl]
    go_enter Tryz.func284, Tryz.ntmps284
    go_wp2_with fail
    refine bodyPost_end (v := .tuple #[]) (by simp [results, Tryz.results284, go_sem]) rfl ?_
    exact ⟨rfl, HR.out.set2 _, (But.refl _ _).setCell (p := ⟨g, 2, none⟩) rfl _⟩
  · have t1 : (e == 0) = false := by simpa using he
    rw [show rf true e err = e from if_neg he]
    clear he
    go_enter Tryz.func284, Tryz.ntmps284
    go_wp2_with fail
    refine bodyPost_end (v := .tuple #[]) (by simp [results, Tryz.results284, go_sem]) rfl ?_
    exact ⟨rfl, HR.out, But.refl _ _⟩
theorem pfail_any {w0 w : World} {v : Value} {l : List Int} {g a : Nat} {e : Int} (err : Int) (h : Rd w0 v l g w a e) :
    Calls Tryz.prog 284 #[.pointer (some ⟨g, 0, none⟩), .int .i64 err] w (Turn v g (.tuple #[]) a (rf true e err) w) := pfail_at err h.rd
theorem pnext_err (g : Nat) (v : Value) (at_ : Nat) (e : Int) (w : World) (hR : RdAt w g v (at_ : Int) e) (he : e ≠ 0) : Calls Tryz.prog 283 #[.pointer (some ⟨g, 0, none⟩)] w (Turn v g (.int .u8 0) at_ e w) := by
  have t2 : (e != 0) = true := by simpa using he
  have HR := Lib.hid hR
  obtain ⟨h0, c0, c1, c2, f0, f1, f2⟩ := hR
  clear he
  go_enter Tryz.func283, Tryz.ntmps283
  go_wp2_with fail
  go_ret
  exact ⟨rfl, HR.out, But.refl _ _⟩
theorem pnext_end (g : Nat) (A : Option Addr) (n c at_ : Nat) (w : World) (hR : RdAt w g (.slice A n c) (at_ : Int) 0) (h : n ≤ at_) : Calls Tryz.prog 283 #[.pointer (some ⟨g, 0, none⟩)] w (Turn (.slice A n c) g (.int .u8 0) at_ 2 w) := by
  have t1 : decide ((n : Int) ≤ (at_ : Int)) = true := by simp; omega
  have t0 : decide (n ≤ at_) = true := by simp; omega
  have HR := Lib.hid hR
  obtain ⟨h0, c0, c1, c2, f0, f1, f2⟩ := hR
  clear h
  go_enter Tryz.func283, Tryz.ntmps283
  go_wp2_with fail
  go_quiet (fail)
  go_wp2_with fail
  refine (pfail_at 2 (HR.out.drewN _)).mono ?_
  rintro en w1 ⟨rfl, hr1, hb1⟩
  have HR1 := Lib.hid hr1
  have HB1 := Lib.hid hb1
  clear hr1 hb1
  go_wp2_with fail
  go_ret
  exact ⟨rfl, HR1.out, ((But.refl _ _).drewN _).trans HB1.out⟩
theorem pnext_in (g b off n c at_ : Nat) (x : Int) (w : World) (hR : RdAt w g (.slice (some ⟨b, off, none⟩) n c) (at_ : Int) 0) (h : at_ < n) (hn : n ≤ 1000000) (_hne : b ≠ g) (_x0 : 0 ≤ x) (_x1 : x < 256) (hx : w.cell? ⟨b, off + at_, none⟩ = some (.int .u8 x)) : Calls Tryz.prog 283 #[.pointer (some ⟨g, 0, none⟩)] w (Turn (.slice (some ⟨b, off, none⟩) n c) g (.int .u8 x) (at_ + 1) 0 w) := by
  have t1 : decide ((n : Int) ≤ (at_ : Int)) = false := by simp; omega
  have t0 : decide (n ≤ at_) = false := by simp; omega
  have t2 : IntKind.i64.wrap ((at_ : Int) + 1) = (at_ : Int) + 1 := IntWalk.i64_in _ (by omega)
  have HR := Lib.hid hR
  obtain ⟨h0, c0, c1, c2, f0, f1, f2⟩ := hR
  go_enter Tryz.func283, Tryz.ntmps283
  go_wp2_with fail
  go_quiet (fail)
  go_wp2_with fail
  go_quiet (fail)
  go_wp2_with fail
  go_ret
  refine ⟨rfl, ?_, ?_⟩
  · rw [show ((at_ + 1 : Nat) : Int) = (at_ : Int) + 1 from by simp]
    exact (HR.out.drewN _).set1 _
  · exact ((But.refl _ _).drewN _).setCell (p := ⟨g, 1, none⟩) rfl _
theorem pnext_any {w0 w : World} {v : Value} {l : List Int} {g a : Nat} {e : Int} (h : Rd w0 v l g w a e) :
    Calls Tryz.prog 283 #[.pointer (some ⟨g, 0, none⟩)] w (Turn v g (.int .u8 (rb l a e).1) (rb l a e).2.1 (rb l a e).2.2 w) := by
  by_cases he : e = 0
  · subst he
    obtain ⟨A, c, hv, h2, h3, h4⟩ := id h.sl
    by_cases hin : a < l.length
    · rw [rb_in hin]
      obtain ⟨b, off, rfl, hB⟩ := h4 (fun e => by rw [e] at hin; simp at hin)
      have hB2 := (hB.keep h.below)
      have hx := hB2.2.2 a hin
      have hm := h.by_ (l.getD a 0) (by rw [List.getD_eq_getElem?_getD, List.getElem?_eq_getElem hin]; simp)
      subst hv
      exact pnext_in g b off _ c a _ w h.rd hin h.len (by have := hB.1; have := h.base; simp at *; omega) hm.1 hm.2 hx
    · rw [rb_end (by omega)]
      subst hv
      exact pnext_end g A _ c a w h.rd (by omega)
  · rw [rb_err he]
    exact pnext_err g v a e w h.rd he
/-- A number, the place, the error: behind an error the place says nothing. -/
def pu (l : List Int) (a : Nat) (e : Int) : Int × Nat × Int := if e ≠ 0 then (0, a, e) else match Leb.rdl Leb.fitU 32 (l.drop a) 0 0 with
  | .ok n m => ((n : Int), a + m / 7, 0)
  | .short => (0, 0, 2)
  | .form => (0, 0, 3)
def ps (bits : Nat) (l : List Int) (a : Nat) (e : Int) : Int × Nat × Int := if e ≠ 0 then (0, a, e) else match Leb.rdl Leb.fitS bits (l.drop a) 0 0 with
  | .ok n m => (Leb.ext n m, a + m / 7, 0)
  | .short => (0, 0, 2)
  | .form => (0, 0, 3)
theorem pu_err (g : Nat) (v : Value) (a : Nat) (e : Int) (w : World) (hR : RdAt w g v (a : Int) e) (he : e ≠ 0) : Calls Tryz.prog 286 #[.pointer (some ⟨g, 0, none⟩)] w (Turn v g (.int .i64 0) a e w) := by
  have t2 : (e != 0) = true := by simpa using he
  have HR := Lib.hid hR
  obtain ⟨h0, c0, c1, c2, f0, f1, f2⟩ := hR
  clear he
  go_enter Tryz.func286, Tryz.ntmps286
  go_wp2_with fail
  go_ret
  exact ⟨rfl, HR.out, But.refl _ _⟩
theorem ps_err (bits : Int) (g : Nat) (v : Value) (a : Nat) (e : Int) (w : World) (hR : RdAt w g v (a : Int) e) (he : e ≠ 0) : Calls Tryz.prog 290 #[.pointer (some ⟨g, 0, none⟩), .int .i64 bits] w (Turn v g (.int .i64 0) a e w) := by
  have t2 : (e != 0) = true := by simpa using he
  have HR := Lib.hid hR
  obtain ⟨h0, c0, c1, c2, f0, f1, f2⟩ := hR
  clear he
  go_enter Tryz.func290, Tryz.ntmps290
  go_wp2_with fail
  go_ret
  exact ⟨rfl, HR.out, But.refl _ _⟩
theorem prun_f0 (g : Nat) (W : World) : (Instr.fieldAt 280 (.pointer (some ⟨g, 0, none⟩)) 0).run Tryz.prog W = .ok (.pointer (some ⟨g, 0, none⟩)) W := by go_simp
theorem prun_f1 (g : Nat) (W : World) : (Instr.fieldAt 280 (.pointer (some ⟨g, 0, none⟩)) 1).run Tryz.prog W = .ok (.pointer (some ⟨g, 1, none⟩)) W := by go_simp
theorem rf_zero (E : Int) : rf true 0 E = E := rfl
theorem pu_core (g : Nat) (A : Option Addr) (n c : Nat) (a x p E : Int) (w : World) (hR : RdAt w g (.slice A n c) a 0)
    (h : ∀ W, Below w.heap.size w W → Calls Tryz.prog 111 #[.slice A n c, .int .i64 a, .int .i64 32] W (fun en w' => en = .returned (.tuple #[.int .u64 x, .int .i64 p, .int .i64 E]) ∧ Below W.heap.size W w')) (hx : IntKind.i64.wrap x = x) :
    Calls Tryz.prog 286 #[.pointer (some ⟨g, 0, none⟩)] w fun en w' => en = .returned (.int .i64 x) ∧ RdAt w' g (.slice A n c) p E ∧ But g w w' := by
  have HR := Lib.hid hR
  have H := Lib.hid h
  obtain ⟨h0, c0, c1, c2, f0, f1, f2⟩ := hR
  clear h
  go_enter Tryz.func286, Tryz.ntmps286
  go_wp2_with fail
  refine Stab.region 33 [.is (.pointer (some ⟨g, 0, none⟩)), .is (.pointer (some ⟨g, 0, none⟩)), .is (.pointer (some ⟨g, 0, none⟩)), .is (.slice A n c), .is (.pointer (some ⟨g, 0, none⟩)), .is (.pointer (some ⟨g, 0, none⟩)), .is (.pointer (some ⟨g, 1, none⟩)), .is (.int .i64 a),
    .is (.tuple #[.int .u64 x, .int .i64 p, .int .i64 E]), .is (.tuple #[.int .u64 x, .int .i64 p, .int .i64 E]), .is (.int .u64 x), .is (.int .i64 p), .is (.int .i64 E), .is (.int .u64 x), .is (.int .i64 p), .is (.int .i64 E)] (by kernel_rfl) (by kernel_rfl) rfl rfl ?_ ?_
  · with_reducible refine Stab.steps_cons ?_ ?_ ?_
    · exact Stab.owes_move rfl rfl rfl
    · exact trivial
    with_reducible refine Stab.steps_cons ?_ ?_ ?_
    · exact Stab.owes_nil rfl rfl rfl
    · exact trivial
    with_reducible refine Stab.steps_cons ?_ ?_ ?_
    · exact Stab.owes_fieldAt rfl rfl (fun W => prun_f0 g W) rfl
    · exact trivial
    with_reducible refine Stab.steps_cons ?_ ?_ ?_
    · exact Stab.owes_load rfl (fun v W hb hv => by subst hv; exact run_ld _ _ _ _ _ W (HR.out.keep hb).c0) rfl
    · exact trivial
    with_reducible refine Stab.steps_cons ?_ ?_ ?_
    · exact Stab.owes_move rfl rfl rfl
    · exact trivial
    with_reducible refine Stab.steps_cons ?_ ?_ ?_
    · exact Stab.owes_nil rfl rfl rfl
    · exact trivial
    with_reducible refine Stab.steps_cons ?_ ?_ ?_
    · exact Stab.owes_fieldAt rfl rfl (fun W => prun_f1 g W) rfl
    · exact trivial
    with_reducible refine Stab.steps_cons ?_ ?_ ?_
    · exact Stab.owes_load rfl (fun v W hb hv => by subst hv; exact run_li _ _ _ W (HR.out.keep hb).c1) rfl
    · exact trivial
    with_reducible refine Stab.steps_cons ?_ ?_ ?_
    · (refine Stab.owes_call Tryz.func111 (by kernel_rfl) (by kernel_rfl) rfl (fun vs W hb hall => ?_) rfl; obtain ⟨_, _, rfl, rfl, _, _, rfl, rfl, _, _, rfl, rfl, rfl⟩ := hall; refine (H.out W hb).mono ?_; rintro e w2 ⟨rfl, hb2⟩; exact ⟨_, rfl, hb2, rfl⟩)
    · exact trivial
    with_reducible refine Stab.steps_cons ?_ ?_ ?_
    · exact Stab.owes_move rfl rfl rfl
    · exact trivial
    with_reducible refine Stab.steps_cons ?_ ?_ ?_
    · exact Stab.owes_extract rfl rfl (fun W => Stab.ext0 W) rfl
    · exact trivial
    with_reducible refine Stab.steps_cons ?_ ?_ ?_
    · exact Stab.owes_extract rfl rfl (fun W => Stab.ext1 W) rfl
    · exact trivial
    with_reducible refine Stab.steps_cons ?_ ?_ ?_
    · exact Stab.owes_extract rfl rfl (fun W => Stab.ext2 W) rfl
    · exact trivial
    with_reducible refine Stab.steps_cons ?_ ?_ ?_
    · exact Stab.owes_assign rfl rfl rfl
    · exact trivial
    with_reducible refine Stab.steps_cons ?_ ?_ ?_
    · exact Stab.owes_assign rfl rfl rfl
    · exact trivial
    with_reducible refine Stab.steps_cons ?_ ?_ ?_
    · exact Stab.owes_assign rfl rfl rfl
    · exact trivial
    exact Stab.steps_nil
  · intro W hb _
    simp only [Act.put, List.setIfInBounds_toArray, List.set_cons_succ, List.set_cons_zero]
    have HRW := Lib.hid (HR.out.keep hb)
    have HB := Lib.hid hb
    clear hb h0 c0 c1 c2 f0 f1 f2
    go_wp2_with fail
    refine (pfail_at E HRW.out).mono ?_
    rw [rf_zero]
    rintro en w1 ⟨rfl, hr1, hb1⟩
    have HR1 := Lib.hid hr1
    have HB1 := Lib.hid ((But.of_below HB.out).trans hb1)
    clear hb1
    obtain ⟨d0, e0, e1, e2, g0, g1, g2⟩ := hr1
    go_wp2_with fail
    go_ret
    exact ⟨rfl, HR1.out.set1 _, HB1.out.setCell (p := ⟨g, 1, none⟩) rfl _⟩
theorem ps_core (bits : Int) (g : Nat) (A : Option Addr) (n c : Nat) (a x p E : Int) (w : World) (hR : RdAt w g (.slice A n c) a 0)
    (h : ∀ W, Below w.heap.size w W → Calls Tryz.prog 295 #[.slice A n c, .int .i64 a, .int .i64 bits] W (fun en w' => en = .returned (.tuple #[.int .i64 x, .int .i64 p, .int .i64 E]) ∧ Below W.heap.size W w')) :
    Calls Tryz.prog 290 #[.pointer (some ⟨g, 0, none⟩), .int .i64 bits] w fun en w' => en = .returned (.int .i64 x) ∧ RdAt w' g (.slice A n c) p E ∧ But g w w' := by
  have HR := Lib.hid hR
  have H := Lib.hid h
  obtain ⟨h0, c0, c1, c2, f0, f1, f2⟩ := hR
  clear h
  go_enter Tryz.func290, Tryz.ntmps290
  go_wp2_with fail
  refine Stab.region 35 [.is (.pointer (some ⟨g, 0, none⟩)), .is (.pointer (some ⟨g, 0, none⟩)), .is (.pointer (some ⟨g, 0, none⟩)), .is (.slice A n c), .is (.pointer (some ⟨g, 0, none⟩)), .is (.pointer (some ⟨g, 0, none⟩)), .is (.pointer (some ⟨g, 1, none⟩)), .is (.int .i64 a), .is (.int .i64 bits),
    .is (.tuple #[.int .i64 x, .int .i64 p, .int .i64 E]), .is (.tuple #[.int .i64 x, .int .i64 p, .int .i64 E]), .is (.int .i64 x), .is (.int .i64 p), .is (.int .i64 E), .is (.int .i64 x), .is (.int .i64 p), .is (.int .i64 E)] (by kernel_rfl) (by kernel_rfl) rfl rfl ?_ ?_
  · with_reducible refine Stab.steps_cons ?_ ?_ ?_
    · exact Stab.owes_move rfl rfl rfl
    · exact trivial
    with_reducible refine Stab.steps_cons ?_ ?_ ?_
    · exact Stab.owes_nil rfl rfl rfl
    · exact trivial
    with_reducible refine Stab.steps_cons ?_ ?_ ?_
    · exact Stab.owes_fieldAt rfl rfl (fun W => prun_f0 g W) rfl
    · exact trivial
    with_reducible refine Stab.steps_cons ?_ ?_ ?_
    · exact Stab.owes_load rfl (fun v W hb hv => by subst hv; exact run_ld _ _ _ _ _ W (HR.out.keep hb).c0) rfl
    · exact trivial
    with_reducible refine Stab.steps_cons ?_ ?_ ?_
    · exact Stab.owes_move rfl rfl rfl
    · exact trivial
    with_reducible refine Stab.steps_cons ?_ ?_ ?_
    · exact Stab.owes_nil rfl rfl rfl
    · exact trivial
    with_reducible refine Stab.steps_cons ?_ ?_ ?_
    · exact Stab.owes_fieldAt rfl rfl (fun W => prun_f1 g W) rfl
    · exact trivial
    with_reducible refine Stab.steps_cons ?_ ?_ ?_
    · exact Stab.owes_load rfl (fun v W hb hv => by subst hv; exact run_li _ _ _ W (HR.out.keep hb).c1) rfl
    · exact trivial
    with_reducible refine Stab.steps_cons ?_ ?_ ?_
    · exact Stab.owes_move rfl rfl rfl
    · exact trivial
    with_reducible refine Stab.steps_cons ?_ ?_ ?_
    · (refine Stab.owes_call Tryz.func295 (by kernel_rfl) (by kernel_rfl) rfl (fun vs W hb hall => ?_) rfl; obtain ⟨_, _, rfl, rfl, _, _, rfl, rfl, _, _, rfl, rfl, rfl⟩ := hall; refine (H.out W hb).mono ?_; rintro e w2 ⟨rfl, hb2⟩; exact ⟨_, rfl, hb2, rfl⟩)
    · exact trivial
    with_reducible refine Stab.steps_cons ?_ ?_ ?_
    · exact Stab.owes_move rfl rfl rfl
    · exact trivial
    with_reducible refine Stab.steps_cons ?_ ?_ ?_
    · exact Stab.owes_extract rfl rfl (fun W => Stab.ext0 W) rfl
    · exact trivial
    with_reducible refine Stab.steps_cons ?_ ?_ ?_
    · exact Stab.owes_extract rfl rfl (fun W => Stab.ext1 W) rfl
    · exact trivial
    with_reducible refine Stab.steps_cons ?_ ?_ ?_
    · exact Stab.owes_extract rfl rfl (fun W => Stab.ext2 W) rfl
    · exact trivial
    with_reducible refine Stab.steps_cons ?_ ?_ ?_
    · exact Stab.owes_assign rfl rfl rfl
    · exact trivial
    with_reducible refine Stab.steps_cons ?_ ?_ ?_
    · exact Stab.owes_assign rfl rfl rfl
    · exact trivial
    with_reducible refine Stab.steps_cons ?_ ?_ ?_
    · exact Stab.owes_assign rfl rfl rfl
    · exact trivial
    exact Stab.steps_nil
  · intro W hb _
    simp only [Act.put, List.setIfInBounds_toArray, List.set_cons_succ, List.set_cons_zero]
    have HRW := Lib.hid (HR.out.keep hb)
    have HB := Lib.hid hb
    clear hb h0 c0 c1 c2 f0 f1 f2
    go_wp2_with fail
    refine (pfail_at E HRW.out).mono ?_
    rw [rf_zero]
    rintro en w1 ⟨rfl, hr1, hb1⟩
    have HR1 := Lib.hid hr1
    have HB1 := Lib.hid ((But.of_below HB.out).trans hb1)
    clear hb1
    obtain ⟨d0, e0, e1, e2, g0, g1, g2⟩ := hr1
    go_wp2_with fail
    go_ret
    exact ⟨rfl, HR1.out.set1 _, HB1.out.setCell (p := ⟨g, 1, none⟩) rfl _⟩
theorem pu_le {l : List Int} {a : Nat} {e : Int} (h : a ≤ l.length) : (pu l a e).2.1 ≤ l.length := by
  unfold pu
  split
  · exact h
  · cases hr : Leb.rdl Leb.fitU 32 (l.drop a) 0 0 with
    | short => exact Nat.zero_le _
    | form => exact Nat.zero_le _
    | ok n m =>
      have hm := rdl_len _ _ _ _ _ hr
      rw [List.length_drop] at hm
      show a + m / 7 ≤ l.length
      omega
theorem ps_le {bits : Nat} {l : List Int} {a : Nat} {e : Int} (h : a ≤ l.length) : (ps bits l a e).2.1 ≤ l.length := by
  unfold ps
  split
  · exact h
  · cases hr : Leb.rdl Leb.fitS bits (l.drop a) 0 0 with
    | short => exact Nat.zero_le _
    | form => exact Nat.zero_le _
    | ok n m =>
      have hm := rdl_len _ _ _ _ _ hr
      rw [List.length_drop] at hm
      show a + m / 7 ≤ l.length
      omega
theorem pu_any {w0 w : World} {v : Value} {l : List Int} {g a : Nat} {e : Int} (h : Rd w0 v l g w a e) :
    Calls Tryz.prog 286 #[.pointer (some ⟨g, 0, none⟩)] w (Turn v g (.int .i64 (pu l a e).1) (pu l a e).2.1 (pu l a e).2.2 w) := by
  by_cases he : e = 0
  · subst he
    have hsl := h.sl.keep h.below
    obtain ⟨A, c, hv, _⟩ := id hsl
    subst hv
    have hR : ∀ W, Below w.heap.size w W → Calls Tryz.prog 111 #[.slice A l.length c, .int .i64 (a : Int), .int .i64 32] W _ := fun W hW => Leb.ReadU_is A c 32 a l W (hsl.keep hW).leb h.len (by255 h.by_) (by omega) (by omega) h.at_le
    unfold pu
    rw [if_neg (by simp)]
    cases hr : Leb.rdl Leb.fitU 32 (l.drop a) 0 0 with
    | short => rw [hr] at hR; exact (pu_core g A _ c a _ _ _ w h.rd hR (by decide)).mono fun e w' ⟨k1, k2, k3⟩ => ⟨k1, k2, k3⟩
    | form => rw [hr] at hR; exact (pu_core g A _ c a _ _ _ w h.rd hR (by decide)).mono fun e w' ⟨k1, k2, k3⟩ => ⟨k1, k2, k3⟩
    | ok n m =>
      rw [hr] at hR
      have hn := (rdl32 (fun x hx => h.by_ x (List.mem_of_mem_drop hx)) hr).1
      exact (pu_core g A _ c a (n : Int) ((a + m / 7 : Nat) : Int) 0 w h.rd hR (IntWalk.i64_in _ (by omega))).mono fun e w' ⟨k1, k2, k3⟩ => ⟨k1, k2, k3⟩
  · have e1 : pu l a e = (0, a, e) := if_pos he
    rw [e1]
    exact pu_err g v a e w h.rd he
theorem ps_any {w0 w : World} {v : Value} {l : List Int} {g a : Nat} {e : Int} (bits : Nat) (hb : bits = 32 ∨ bits = 64) (h : Rd w0 v l g w a e) :
    Calls Tryz.prog 290 #[.pointer (some ⟨g, 0, none⟩), .int .i64 (bits : Int)] w (Turn v g (.int .i64 (ps bits l a e).1) (ps bits l a e).2.1 (ps bits l a e).2.2 w) := by
  by_cases he : e = 0
  · subst he
    have hsl := h.sl.keep h.below
    obtain ⟨A, c, hv, _⟩ := id hsl
    subst hv
    have hR : ∀ W, Below w.heap.size w W → Calls Tryz.prog 295 #[.slice A l.length c, .int .i64 (a : Int), .int .i64 (bits : Int)] W _ := fun W hW => Leb.ReadS_is A c bits a l W (hsl.keep hW).leb h.len (by255 h.by_) (by omega) (by omega) h.at_le
    unfold ps
    rw [if_neg (by simp)]
    cases hr : Leb.rdl Leb.fitS bits (l.drop a) 0 0 with
    | short => rw [hr] at hR; exact (ps_core bits g A _ c a _ _ _ w h.rd hR).mono fun e w' ⟨k1, k2, k3⟩ => ⟨k1, k2, k3⟩
    | form => rw [hr] at hR; exact (ps_core bits g A _ c a _ _ _ w h.rd hR).mono fun e w' ⟨k1, k2, k3⟩ => ⟨k1, k2, k3⟩
    | ok n m =>
      rw [hr] at hR
      exact (ps_core bits g A _ c a (Leb.ext n m) ((a + m / 7 : Nat) : Int) 0 w h.rd hR).mono fun e w' ⟨k1, k2, k3⟩ => ⟨k1, k2, k3⟩
  · have e1 : ps bits l a e = (0, a, e) := if_pos he
    rw [e1]
    exact ps_err bits g v a e w h.rd he
end Go.Proofs.YtffegkjlgeblbaaGreatDoor.Ins
end
