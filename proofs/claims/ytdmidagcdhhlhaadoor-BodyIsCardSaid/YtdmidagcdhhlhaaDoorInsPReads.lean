/- Several parts in one text. -/
import Derived.Test.YtdmidagcdhhlhaaDoorInsNum
import Derived.Test.YtdmidagcdhhlhaaDoorInsPKind
import Derived.Test.YtdmidagcdhhlhaaDoorInsDocs
/- The program's reader: a byte, a fault, a number. -/
namespace Go.Proofs.YtdmidagcdhhlhaaDoor.Ins
open Go.RowKit Ints Typ
set_option maxRecDepth 100000
set_option maxHeartbeats 1000000

theorem pfail_at (err : Int) {w : World} {g : Nat} {v : Value} {a e : Int} (hR : RdAt w g v a e) :
    Calls Tryd.prog 65 #[.pointer (some ⟨g, 0, none⟩), .int .i64 err] w fun en w' => en = .returned (.tuple #[]) ∧ RdAt w' g v a (rf true e err) ∧ But g w w' := by
  have HR := Lib.hid hR
  obtain ⟨h0, c0, c1, c2, f0, f1, f2⟩ := hR
  by_cases he : e = 0
  · subst he
    rw [show rf true 0 err = err from rfl]
    go_enter Tryd.func65, Tryd.ntmps65
    go_wp2_with fail
    refine bodyPost_end (v := .tuple #[]) (by simp [results, Tryd.results65, go_sem]) rfl ?_
    exact ⟨rfl, HR.out.set2 _, (But.refl _ _).setCell (p := ⟨g, 2, none⟩) rfl _⟩
  · have t1 : (e == 0) = false := by simpa using he
    rw [show rf true e err = e from if_neg he]
    clear he
    go_enter Tryd.func65, Tryd.ntmps65
    go_wp2_with fail
    refine bodyPost_end (v := .tuple #[]) (by simp [results, Tryd.results65, go_sem]) rfl ?_
    exact ⟨rfl, HR.out, But.refl _ _⟩
theorem pfail_any {w0 w : World} {v : Value} {l : List Int} {g a : Nat} {e : Int} (err : Int) (h : Rd w0 v l g w a e) :
    Calls Tryd.prog 65 #[.pointer (some ⟨g, 0, none⟩), .int .i64 err] w (Turn v g (.tuple #[]) a (rf true e err) w) := pfail_at err h.rd
theorem pnext_err (g : Nat) (v : Value) (at_ : Nat) (e : Int) (w : World) (hR : RdAt w g v (at_ : Int) e) (he : e ≠ 0) : Calls Tryd.prog 64 #[.pointer (some ⟨g, 0, none⟩)] w (Turn v g (.int .u8 0) at_ e w) := by
  have t2 : (e != 0) = true := by simpa using he
  have HR := Lib.hid hR
  obtain ⟨h0, c0, c1, c2, f0, f1, f2⟩ := hR
  clear he
  go_enter Tryd.func64, Tryd.ntmps64
  go_wp2_with fail
  go_ret
  exact ⟨rfl, HR.out, But.refl _ _⟩
theorem pnext_end (g : Nat) (A : Option Addr) (n c at_ : Nat) (w : World) (hR : RdAt w g (.slice A n c) (at_ : Int) 0) (h : n ≤ at_) : Calls Tryd.prog 64 #[.pointer (some ⟨g, 0, none⟩)] w (Turn (.slice A n c) g (.int .u8 0) at_ 2 w) := by
  have t1 : decide ((n : Int) ≤ (at_ : Int)) = true := by simp; omega
  have t0 : decide (n ≤ at_) = true := by simp; omega
  have HR := Lib.hid hR
  obtain ⟨h0, c0, c1, c2, f0, f1, f2⟩ := hR
  clear h
  go_enter Tryd.func64, Tryd.ntmps64
  go_wp2_with fail
  go_quiet (fail)
  go_wp2_with fail
  refine (pfail_at 2 (HR.out.drewN _)).mono ?_
  rintro en w1 ⟨rfl, hr1, hb1⟩
  have HR1 := Lib.hid hr1
  have HB1 := Lib.hid hb1
  clear hr1 hb1
  go_wp2_with fail
  go_ret
  exact ⟨rfl, HR1.out, ((But.refl _ _).drewN _).trans HB1.out⟩
theorem pnext_in (g b off n c at_ : Nat) (x : Int) (w : World) (hR : RdAt w g (.slice (some ⟨b, off, none⟩) n c) (at_ : Int) 0) (h : at_ < n) (hn : n ≤ 1000000) (_hne : b ≠ g) (_x0 : 0 ≤ x) (_x1 : x < 256) (hx : w.cell? ⟨b, off + at_, none⟩ = some (.int .u8 x)) : Calls Tryd.prog 64 #[.pointer (some ⟨g, 0, none⟩)] w (Turn (.slice (some ⟨b, off, none⟩) n c) g (.int .u8 x) (at_ + 1) 0 w) := by
  have t1 : decide ((n : Int) ≤ (at_ : Int)) = false := by simp; omega
  have t0 : decide (n ≤ at_) = false := by simp; omega
  have t2 : IntKind.i64.wrap ((at_ : Int) + 1) = (at_ : Int) + 1 := IntWalk.i64_in _ (by omega)
  have HR := Lib.hid hR
  obtain ⟨h0, c0, c1, c2, f0, f1, f2⟩ := hR
  go_enter Tryd.func64, Tryd.ntmps64
  go_wp2_with fail
  go_quiet (fail)
  go_wp2_with fail
  go_quiet (fail)
  go_wp2_with fail
  go_ret
  refine ⟨rfl, ?_, ?_⟩
  · rw [show ((at_ + 1 : Nat) : Int) = (at_ : Int) + 1 from by simp]
    exact (HR.out.drewN _).set1 _
  · exact ((But.refl _ _).drewN _).setCell (p := ⟨g, 1, none⟩) rfl _
theorem pnext_any {w0 w : World} {v : Value} {l : List Int} {g a : Nat} {e : Int} (h : Rd w0 v l g w a e) :
    Calls Tryd.prog 64 #[.pointer (some ⟨g, 0, none⟩)] w (Turn v g (.int .u8 (rb l a e).1) (rb l a e).2.1 (rb l a e).2.2 w) := by
  by_cases he : e = 0
  · subst he
    obtain ⟨A, c, hv, h2, h3, h4⟩ := id h.sl
    by_cases hin : a < l.length
    · rw [rb_in hin]
      obtain ⟨b, off, rfl, hB⟩ := h4 (fun e => by rw [e] at hin; simp at hin)
      have hB2 := (hB.keep h.below)
      have hx := hB2.2.2 a hin
      have hm := h.by_ (l.getD a 0) (by rw [List.getD_eq_getElem?_getD, List.getElem?_eq_getElem hin]; simp)
      subst hv
      exact pnext_in g b off _ c a _ w h.rd hin h.len (by have := hB.1; have := h.base; simp at *; omega) hm.1 hm.2 hx
    · rw [rb_end (by omega)]
      subst hv
      exact pnext_end g A _ c a w h.rd (by omega)
  · rw [rb_err he]
    exact pnext_err g v a e w h.rd he
/-- A number, the place, the error: behind an error the place says nothing. -/
def pu (l : List Int) (a : Nat) (e : Int) : Int × Nat × Int := if e ≠ 0 then (0, a, e) else match Leb.rdl Leb.fitU 32 (l.drop a) 0 0 with
  | .ok n m => ((n : Int), a + m / 7, 0)
  | .short => (0, 0, 2)
  | .form => (0, 0, 3)
def ps (bits : Nat) (l : List Int) (a : Nat) (e : Int) : Int × Nat × Int := if e ≠ 0 then (0, a, e) else match Leb.rdl Leb.fitS bits (l.drop a) 0 0 with
  | .ok n m => (Leb.ext n m, a + m / 7, 0)
  | .short => (0, 0, 2)
  | .form => (0, 0, 3)
theorem pu_err (g : Nat) (v : Value) (a : Nat) (e : Int) (w : World) (hR : RdAt w g v (a : Int) e) (he : e ≠ 0) : Calls Tryd.prog 67 #[.pointer (some ⟨g, 0, none⟩)] w (Turn v g (.int .i64 0) a e w) := by
  have t2 : (e != 0) = true := by simpa using he
  have HR := Lib.hid hR
  obtain ⟨h0, c0, c1, c2, f0, f1, f2⟩ := hR
  clear he
  go_enter Tryd.func67, Tryd.ntmps67
  go_wp2_with fail
  go_ret
  exact ⟨rfl, HR.out, But.refl _ _⟩
theorem ps_err (bits : Int) (g : Nat) (v : Value) (a : Nat) (e : Int) (w : World) (hR : RdAt w g v (a : Int) e) (he : e ≠ 0) : Calls Tryd.prog 71 #[.pointer (some ⟨g, 0, none⟩), .int .i64 bits] w (Turn v g (.int .i64 0) a e w) := by
  have t2 : (e != 0) = true := by simpa using he
  have HR := Lib.hid hR
  obtain ⟨h0, c0, c1, c2, f0, f1, f2⟩ := hR
  clear he
  go_enter Tryd.func71, Tryd.ntmps71
  go_wp2_with fail
  go_ret
  exact ⟨rfl, HR.out, But.refl _ _⟩
theorem prun_f0 (g : Nat) (W : World) : (Instr.fieldAt 78 (.pointer (some ⟨g, 0, none⟩)) 0).run Tryd.prog W = .ok (.pointer (some ⟨g, 0, none⟩)) W := by go_simp
theorem prun_f1 (g : Nat) (W : World) : (Instr.fieldAt 78 (.pointer (some ⟨g, 0, none⟩)) 1).run Tryd.prog W = .ok (.pointer (some ⟨g, 1, none⟩)) W := by go_simp
theorem rf_zero (E : Int) : rf true 0 E = E := rfl
theorem pu_core (g : Nat) (A : Option Addr) (n c : Nat) (a x p E : Int) (w : World) (hR : RdAt w g (.slice A n c) a 0)
    (h : ∀ W, Below w.heap.size w W → Calls Tryd.prog 89 #[.slice A n c, .int .i64 a, .int .i64 32] W (fun en w' => en = .returned (.tuple #[.int .u64 x, .int .i64 p, .int .i64 E]) ∧ Below W.heap.size W w')) (hx : IntKind.i64.wrap x = x) :
    Calls Tryd.prog 67 #[.pointer (some ⟨g, 0, none⟩)] w fun en w' => en = .returned (.int .i64 x) ∧ RdAt w' g (.slice A n c) p E ∧ But g w w' := by
  have HR := Lib.hid hR
  have H := Lib.hid h
  obtain ⟨h0, c0, c1, c2, f0, f1, f2⟩ := hR
  clear h
  go_enter Tryd.func67, Tryd.ntmps67
  go_wp2_with fail
  refine Stab.region 33 [.is (.pointer (some ⟨g, 0, none⟩)), .is (.pointer (some ⟨g, 0, none⟩)), .is (.pointer (some ⟨g, 0, none⟩)), .is (.slice A n c), .is (.pointer (some ⟨g, 0, none⟩)), .is (.pointer (some ⟨g, 0, none⟩)), .is (.pointer (some ⟨g, 1, none⟩)), .is (.int .i64 a),
    .is (.tuple #[.int .u64 x, .int .i64 p, .int .i64 E]), .is (.tuple #[.int .u64 x, .int .i64 p, .int .i64 E]), .is (.int .u64 x), .is (.int .i64 p), .is (.int .i64 E), .is (.int .u64 x), .is (.int .i64 p), .is (.int .i64 E)] (by kernel_rfl) (by kernel_rfl) rfl rfl ?_ ?_
  · with_reducible refine Stab.steps_cons ?_ ?_ ?_
    · exact Stab.owes_move rfl rfl rfl
    · exact trivial
    with_reducible refine Stab.steps_cons ?_ ?_ ?_
    · exact Stab.owes_nil rfl rfl rfl
    · exact trivial
    with_reducible refine Stab.steps_cons ?_ ?_ ?_
    · exact Stab.owes_fieldAt rfl rfl (fun W => prun_f0 g W) rfl
    · exact trivial
    with_reducible refine Stab.steps_cons ?_ ?_ ?_
    · exact Stab.owes_load rfl (fun v W hb hv => by subst hv; exact run_ld _ _ _ _ _ W (HR.out.keep hb).c0) rfl
    · exact trivial
    with_reducible refine Stab.steps_cons ?_ ?_ ?_
    · exact Stab.owes_move rfl rfl rfl
    · exact trivial
    with_reducible refine Stab.steps_cons ?_ ?_ ?_
    · exact Stab.owes_nil rfl rfl rfl
    · exact trivial
    with_reducible refine Stab.steps_cons ?_ ?_ ?_
    · exact Stab.owes_fieldAt rfl rfl (fun W => prun_f1 g W) rfl
    · exact trivial
    with_reducible refine Stab.steps_cons ?_ ?_ ?_
    · exact Stab.owes_load rfl (fun v W hb hv => by subst hv; exact run_li _ _ _ W (HR.out.keep hb).c1) rfl
    · exact trivial
    with_reducible refine Stab.steps_cons ?_ ?_ ?_
    · (refine Stab.owes_call Tryd.func89 (by kernel_rfl) (by kernel_rfl) rfl (fun vs W hb hall => ?_) rfl; obtain ⟨_, _, rfl, rfl, _, _, rfl, rfl, _, _, rfl, rfl, rfl⟩ := hall; refine (H.out W hb).mono ?_; rintro e w2 ⟨rfl, hb2⟩; exact ⟨_, rfl, hb2, rfl⟩)
    · exact trivial
    with_reducible refine Stab.steps_cons ?_ ?_ ?_
    · exact Stab.owes_move rfl rfl rfl
    · exact trivial
    with_reducible refine Stab.steps_cons ?_ ?_ ?_
    · exact Stab.owes_extract rfl rfl (fun W => Stab.ext0 W) rfl
    · exact trivial
    with_reducible refine Stab.steps_cons ?_ ?_ ?_
    · exact Stab.owes_extract rfl rfl (fun W => Stab.ext1 W) rfl
    · exact trivial
    with_reducible refine Stab.steps_cons ?_ ?_ ?_
    · exact Stab.owes_extract rfl rfl (fun W => Stab.ext2 W) rfl
    · exact trivial
    with_reducible refine Stab.steps_cons ?_ ?_ ?_
    · exact Stab.owes_assign rfl rfl rfl
    · exact trivial
    with_reducible refine Stab.steps_cons ?_ ?_ ?_
    · exact Stab.owes_assign rfl rfl rfl
    · exact trivial
    with_reducible refine Stab.steps_cons ?_ ?_ ?_
    · exact Stab.owes_assign rfl rfl rfl
    · exact trivial
    exact Stab.steps_nil
  · intro W hb _
    simp only [Act.put, List.setIfInBounds_toArray, List.set_cons_succ, List.set_cons_zero]
    have HRW := Lib.hid (HR.out.keep hb)
    have HB := Lib.hid hb
    clear hb h0 c0 c1 c2 f0 f1 f2
    go_wp2_with fail
    refine (pfail_at E HRW.out).mono ?_
    rw [rf_zero]
    rintro en w1 ⟨rfl, hr1, hb1⟩
    have HR1 := Lib.hid hr1
    have HB1 := Lib.hid ((But.of_below HB.out).trans hb1)
    clear hb1
    obtain ⟨d0, e0, e1, e2, g0, g1, g2⟩ := hr1
    go_wp2_with fail
    go_ret
    exact ⟨rfl, HR1.out.set1 _, HB1.out.setCell (p := ⟨g, 1, none⟩) rfl _⟩
theorem ps_core (bits : Int) (g : Nat) (A : Option Addr) (n c : Nat) (a x p E : Int) (w : World) (hR : RdAt w g (.slice A n c) a 0)
    (h : ∀ W, Below w.heap.size w W → Calls Tryd.prog 90 #[.slice A n c, .int .i64 a, .int .i64 bits] W (fun en w' => en = .returned (.tuple #[.int .i64 x, .int .i64 p, .int .i64 E]) ∧ Below W.heap.size W w')) :
    Calls Tryd.prog 71 #[.pointer (some ⟨g, 0, none⟩), .int .i64 bits] w fun en w' => en = .returned (.int .i64 x) ∧ RdAt w' g (.slice A n c) p E ∧ But g w w' := by
  have HR := Lib.hid hR
  have H := Lib.hid h
  obtain ⟨h0, c0, c1, c2, f0, f1, f2⟩ := hR
  clear h
  go_enter Tryd.func71, Tryd.ntmps71
  go_wp2_with fail
  refine Stab.region 35 [.is (.pointer (some ⟨g, 0, none⟩)), .is (.pointer (some ⟨g, 0, none⟩)), .is (.pointer (some ⟨g, 0, none⟩)), .is (.slice A n c), .is (.pointer (some ⟨g, 0, none⟩)), .is (.pointer (some ⟨g, 0, none⟩)), .is (.pointer (some ⟨g, 1, none⟩)), .is (.int .i64 a), .is (.int .i64 bits),
    .is (.tuple #[.int .i64 x, .int .i64 p, .int .i64 E]), .is (.tuple #[.int .i64 x, .int .i64 p, .int .i64 E]), .is (.int .i64 x), .is (.int .i64 p), .is (.int .i64 E), .is (.int .i64 x), .is (.int .i64 p), .is (.int .i64 E)] (by kernel_rfl) (by kernel_rfl) rfl rfl ?_ ?_
  · with_reducible refine Stab.steps_cons ?_ ?_ ?_
    · exact Stab.owes_move rfl rfl rfl
    · exact trivial
    with_reducible refine Stab.steps_cons ?_ ?_ ?_
    · exact Stab.owes_nil rfl rfl rfl
    · exact trivial
    with_reducible refine Stab.steps_cons ?_ ?_ ?_
    · exact Stab.owes_fieldAt rfl rfl (fun W => prun_f0 g W) rfl
    · exact trivial
    with_reducible refine Stab.steps_cons ?_ ?_ ?_
    · exact Stab.owes_load rfl (fun v W hb hv => by subst hv; exact run_ld _ _ _ _ _ W (HR.out.keep hb).c0) rfl
    · exact trivial
    with_reducible refine Stab.steps_cons ?_ ?_ ?_
    · exact Stab.owes_move rfl rfl rfl
    · exact trivial
    with_reducible refine Stab.steps_cons ?_ ?_ ?_
    · exact Stab.owes_nil rfl rfl rfl
    · exact trivial
    with_reducible refine Stab.steps_cons ?_ ?_ ?_
    · exact Stab.owes_fieldAt rfl rfl (fun W => prun_f1 g W) rfl
    · exact trivial
    with_reducible refine Stab.steps_cons ?_ ?_ ?_
    · exact Stab.owes_load rfl (fun v W hb hv => by subst hv; exact run_li _ _ _ W (HR.out.keep hb).c1) rfl
    · exact trivial
    with_reducible refine Stab.steps_cons ?_ ?_ ?_
    · exact Stab.owes_move rfl rfl rfl
    · exact trivial
    with_reducible refine Stab.steps_cons ?_ ?_ ?_
    · (refine Stab.owes_call Tryd.func90 (by kernel_rfl) (by kernel_rfl) rfl (fun vs W hb hall => ?_) rfl; obtain ⟨_, _, rfl, rfl, _, _, rfl, rfl, _, _, rfl, rfl, rfl⟩ := hall; refine (H.out W hb).mono ?_; rintro e w2 ⟨rfl, hb2⟩; exact ⟨_, rfl, hb2, rfl⟩)
    · exact trivial
    with_reducible refine Stab.steps_cons ?_ ?_ ?_
    · exact Stab.owes_move rfl rfl rfl
    · exact trivial
    with_reducible refine Stab.steps_cons ?_ ?_ ?_
    · exact Stab.owes_extract rfl rfl (fun W => Stab.ext0 W) rfl
    · exact trivial
    with_reducible refine Stab.steps_cons ?_ ?_ ?_
    · exact Stab.owes_extract rfl rfl (fun W => Stab.ext1 W) rfl
    · exact trivial
    with_reducible refine Stab.steps_cons ?_ ?_ ?_
    · exact Stab.owes_extract rfl rfl (fun W => Stab.ext2 W) rfl
    · exact trivial
    with_reducible refine Stab.steps_cons ?_ ?_ ?_
    · exact Stab.owes_assign rfl rfl rfl
    · exact trivial
    with_reducible refine Stab.steps_cons ?_ ?_ ?_
    · exact Stab.owes_assign rfl rfl rfl
    · exact trivial
    with_reducible refine Stab.steps_cons ?_ ?_ ?_
    · exact Stab.owes_assign rfl rfl rfl
    · exact trivial
    exact Stab.steps_nil
  · intro W hb _
    simp only [Act.put, List.setIfInBounds_toArray, List.set_cons_succ, List.set_cons_zero]
    have HRW := Lib.hid (HR.out.keep hb)
    have HB := Lib.hid hb
    clear hb h0 c0 c1 c2 f0 f1 f2
    go_wp2_with fail
    refine (pfail_at E HRW.out).mono ?_
    rw [rf_zero]
    rintro en w1 ⟨rfl, hr1, hb1⟩
    have HR1 := Lib.hid hr1
    have HB1 := Lib.hid ((But.of_below HB.out).trans hb1)
    clear hb1
    obtain ⟨d0, e0, e1, e2, g0, g1, g2⟩ := hr1
    go_wp2_with fail
    go_ret
    exact ⟨rfl, HR1.out.set1 _, HB1.out.setCell (p := ⟨g, 1, none⟩) rfl _⟩
theorem pu_le {l : List Int} {a : Nat} {e : Int} (h : a ≤ l.length) : (pu l a e).2.1 ≤ l.length := by
  unfold pu
  split
  · exact h
  · cases hr : Leb.rdl Leb.fitU 32 (l.drop a) 0 0 with
    | short => exact Nat.zero_le _
    | form => exact Nat.zero_le _
    | ok n m =>
      have hm := rdl_len _ _ _ _ _ hr
      rw [List.length_drop] at hm
      show a + m / 7 ≤ l.length
      omega
theorem ps_le {bits : Nat} {l : List Int} {a : Nat} {e : Int} (h : a ≤ l.length) : (ps bits l a e).2.1 ≤ l.length := by
  unfold ps
  split
  · exact h
  · cases hr : Leb.rdl Leb.fitS bits (l.drop a) 0 0 with
    | short => exact Nat.zero_le _
    | form => exact Nat.zero_le _
    | ok n m =>
      have hm := rdl_len _ _ _ _ _ hr
      rw [List.length_drop] at hm
      show a + m / 7 ≤ l.length
      omega
theorem pu_any {w0 w : World} {v : Value} {l : List Int} {g a : Nat} {e : Int} (h : Rd w0 v l g w a e) :
    Calls Tryd.prog 67 #[.pointer (some ⟨g, 0, none⟩)] w (Turn v g (.int .i64 (pu l a e).1) (pu l a e).2.1 (pu l a e).2.2 w) := by
  by_cases he : e = 0
  · subst he
    have hsl := h.sl.keep h.below
    obtain ⟨A, c, hv, _⟩ := id hsl
    subst hv
    have hR : ∀ W, Below w.heap.size w W → Calls Tryd.prog 89 #[.slice A l.length c, .int .i64 (a : Int), .int .i64 32] W _ := fun W hW => Leb.ReadU_is A c 32 a l W (hsl.keep hW).leb h.len (by255 h.by_) (by omega) (by omega) h.at_le
    unfold pu
    rw [if_neg (by simp)]
    cases hr : Leb.rdl Leb.fitU 32 (l.drop a) 0 0 with
    | short => rw [hr] at hR; exact (pu_core g A _ c a _ _ _ w h.rd hR (by decide)).mono fun e w' ⟨k1, k2, k3⟩ => ⟨k1, k2, k3⟩
    | form => rw [hr] at hR; exact (pu_core g A _ c a _ _ _ w h.rd hR (by decide)).mono fun e w' ⟨k1, k2, k3⟩ => ⟨k1, k2, k3⟩
    | ok n m =>
      rw [hr] at hR
      have hn := (rdl32 (fun x hx => h.by_ x (List.mem_of_mem_drop hx)) hr).1
      exact (pu_core g A _ c a (n : Int) ((a + m / 7 : Nat) : Int) 0 w h.rd hR (IntWalk.i64_in _ (by omega))).mono fun e w' ⟨k1, k2, k3⟩ => ⟨k1, k2, k3⟩
  · have e1 : pu l a e = (0, a, e) := if_pos he
    rw [e1]
    exact pu_err g v a e w h.rd he
theorem ps_any {w0 w : World} {v : Value} {l : List Int} {g a : Nat} {e : Int} (bits : Nat) (hb : bits = 32 ∨ bits = 64) (h : Rd w0 v l g w a e) :
    Calls Tryd.prog 71 #[.pointer (some ⟨g, 0, none⟩), .int .i64 (bits : Int)] w (Turn v g (.int .i64 (ps bits l a e).1) (ps bits l a e).2.1 (ps bits l a e).2.2 w) := by
  by_cases he : e = 0
  · subst he
    have hsl := h.sl.keep h.below
    obtain ⟨A, c, hv, _⟩ := id hsl
    subst hv
    have hR : ∀ W, Below w.heap.size w W → Calls Tryd.prog 90 #[.slice A l.length c, .int .i64 (a : Int), .int .i64 (bits : Int)] W _ := fun W hW => Leb.ReadS_is A c bits a l W (hsl.keep hW).leb h.len (by255 h.by_) (by omega) (by omega) h.at_le
    unfold ps
    rw [if_neg (by simp)]
    cases hr : Leb.rdl Leb.fitS bits (l.drop a) 0 0 with
    | short => rw [hr] at hR; exact (ps_core bits g A _ c a _ _ _ w h.rd hR).mono fun e w' ⟨k1, k2, k3⟩ => ⟨k1, k2, k3⟩
    | form => rw [hr] at hR; exact (ps_core bits g A _ c a _ _ _ w h.rd hR).mono fun e w' ⟨k1, k2, k3⟩ => ⟨k1, k2, k3⟩
    | ok n m =>
      rw [hr] at hR
      exact (ps_core bits g A _ c a (Leb.ext n m) ((a + m / 7 : Nat) : Int) 0 w h.rd hR).mono fun e w' ⟨k1, k2, k3⟩ => ⟨k1, k2, k3⟩
  · have e1 : ps bits l a e = (0, a, e) := if_pos he
    rw [e1]
    exact ps_err bits g v a e w h.rd he
end Go.Proofs.YtdmidagcdhhlhaaDoor.Ins

/- The program's reader: a byte that has to be 0, what a block gives, labels. -/
namespace Go.Proofs.YtdmidagcdhhlhaaDoor.Ins
open Go.RowKit Ints Typ
set_option maxRecDepth 100000
set_option maxHeartbeats 1000000
set_option linter.unusedVariables false

theorem pzero_core {w0 w : World} {v : Value} {l : List Int} {g a : Nat} {e : Int} (hr : Rd w0 v l g w a e) (x e1 : Int) (a1 : Nat) (b : Bool) (hb : (x != 0) = b) (h1 : a1 ≤ l.length)
    (hN : ∀ W, Rd w0 v l g W a e → Calls Tryd.prog 64 #[.pointer (some ⟨g, 0, none⟩)] W (Turn v g (.int .u8 x) a1 e1 W)) :
    Calls Tryd.prog 69 #[.pointer (some ⟨g, 0, none⟩)] w (Turn v g (.tuple #[]) a1 (rf b e1 3) w) := by
  have HR := Lib.hid hr
  have HN := Lib.hid hN
  have HH1 := Lib.hid h1
  clear hr hN h1
  cases b with
  | true =>
    go_enter Tryd.func69, Tryd.ntmps69
    go_wp2_with fail
    refine (HN.out _ HR.out).mono ?_
    rintro en w1 ⟨rfl, hr1, hb1⟩
    have HR1 := Lib.hid (HR.out.turn hr1 hb1 HH1.out)
    have HB1 := Lib.hid hb1
    clear hr1 hb1
    go_wp2_with fail
    refine (pfail_any 3 HR1.out).mono ?_
    rintro en w2 ⟨rfl, hr2, hb2⟩
    have HR2 := Lib.hid hr2
    have HB2 := Lib.hid (HB1.out.trans hb2)
    clear hr2 hb2
    go_wp2_with fail
    refine bodyPost_end (v := .tuple #[]) (by simp [results, Tryd.results69, go_sem]) rfl ?_
    exact ⟨rfl, HR2.out, HB2.out⟩
  | false =>
    go_enter Tryd.func69, Tryd.ntmps69
    go_wp2_with fail
    refine (HN.out _ HR.out).mono ?_
    rintro en w1 ⟨rfl, hr1, hb1⟩
    have HR1 := Lib.hid hr1
    have HB1 := Lib.hid hb1
    clear hr1 hb1
    go_wp2_with fail
    refine bodyPost_end (v := .tuple #[]) (by simp [results, Tryd.results69, go_sem]) rfl ?_
    exact ⟨rfl, HR1.out, HB1.out⟩
theorem pzero_any {w0 w : World} {v : Value} {l : List Int} {g a : Nat} {e : Int} (h : Rd w0 v l g w a e) :
    Calls Tryd.prog 69 #[.pointer (some ⟨g, 0, none⟩)] w (Turn v g (.tuple #[]) (rb l a e).2.1 (rf ((rb l a e).1 != 0) (rb l a e).2.2 3) w) :=
  pzero_core h _ _ _ _ rfl (rb_le h.at_le) fun W H => pnext_any H
theorem rb_range {l : List Int} (hb : ∀ x ∈ l, 0 ≤ x ∧ x < 256) (a : Nat) (e : Int) : 0 ≤ (rb l a e).1 ∧ (rb l a e).1 < 256 := by
  unfold rb
  split
  · exact ⟨by simp, by simp⟩
  · split
    · exact ⟨by simp, by simp⟩
    · rename_i h
      exact hb _ (by rw [List.getD_eq_getElem?_getD, List.getElem?_eq_getElem (by omega)]; simp)
theorem presult_core {w0 w : World} {v : Value} {l : List Int} {g a : Nat} {e : Int} (hr : Rd w0 v l g w a e) (x e1 : Int) (a1 : Nat) (b b2 b3 : Bool) (hb : (x == 64) = b) (hb2 : (x != 127) = b2) (hb3 : (x != 126) = b3) (hx : IntKind.i64.wrap x = x) (h1 : a1 ≤ l.length)
    (hN : ∀ W, Rd w0 v l g W a e → Calls Tryd.prog 64 #[.pointer (some ⟨g, 0, none⟩)] W (Turn v g (.int .u8 x) a1 e1 W)) :
    Calls Tryd.prog 66 #[.pointer (some ⟨g, 0, none⟩)] w (Turn v g (.int .i64 (bif b then 0 else x)) a1 (rf (!b && (b2 && b3)) e1 3) w) := by
  have HR := Lib.hid hr
  have HN := Lib.hid hN
  have HH1 := Lib.hid h1
  clear hr hN h1
  cases b with
  | true =>
    go_enter Tryd.func66, Tryd.ntmps66
    go_wp2_with fail
    refine (HN.out _ HR.out).mono ?_
    rintro en w1 ⟨rfl, hr1, hb1⟩
    have HR1 := Lib.hid hr1
    have HB1 := Lib.hid hb1
    clear hr1 hb1
    go_wp2_with fail
    go_ret
    exact ⟨rfl, HR1.out, HB1.out⟩
  | false =>
    by_cases hq : (b2 && b3) = true
    · obtain ⟨rfl, rfl⟩ : b2 = true ∧ b3 = true := by simpa using hq
      clear hq
      go_enter Tryd.func66, Tryd.ntmps66
      go_wp2_with fail
      refine (HN.out _ HR.out).mono ?_
      rintro en w1 ⟨rfl, hr1, hb1⟩
      have HR1 := Lib.hid (HR.out.turn hr1 hb1 HH1.out)
      have HB1 := Lib.hid hb1
      clear hr1 hb1
      go_wp2_with fail
      refine (pfail_any 3 HR1.out).mono ?_
      rintro en w2 ⟨rfl, hr2, hb2⟩
      have HR2 := Lib.hid hr2
      have HB2 := Lib.hid (HB1.out.trans hb2)
      clear hr2 hb2
      go_wp2_with fail
      go_ret
      exact ⟨rfl, HR2.out, HB2.out⟩
    · have hq2 : (b2 && b3) = false := by simpa using hq
      rw [hq2]
      clear hq
      cases b2 with
      | true =>
        obtain rfl : b3 = false := by simpa using hq2
        clear hq2
        go_enter Tryd.func66, Tryd.ntmps66
        go_wp2_with fail
        refine (HN.out _ HR.out).mono ?_
        rintro en w1 ⟨rfl, hr1, hb1⟩
        have HR1 := Lib.hid hr1
        have HB1 := Lib.hid hb1
        clear hr1 hb1
        go_wp2_with fail
        go_ret
        exact ⟨rfl, HR1.out, HB1.out⟩
      | false =>
        clear hq2 hb3
        go_enter Tryd.func66, Tryd.ntmps66
        go_wp2_with fail
        refine (HN.out _ HR.out).mono ?_
        rintro en w1 ⟨rfl, hr1, hb1⟩
        have HR1 := Lib.hid hr1
        have HB1 := Lib.hid hb1
        clear hr1 hb1
        go_wp2_with fail
        go_ret
        exact ⟨rfl, HR1.out, HB1.out⟩
/-- What a block gives: 0 is nothing. -/
def rz (x : Int) : Int := if x = 64 then 0 else x
theorem presult_any {w0 w : World} {v : Value} {l : List Int} {g a : Nat} {e : Int} (h : Rd w0 v l g w a e) :
    Calls Tryd.prog 66 #[.pointer (some ⟨g, 0, none⟩)] w (Turn v g (.int .i64 (rz (rb l a e).1)) (rb l a e).2.1 (rf ((rb l a e).1 != 64 && ((rb l a e).1 != 126 && (rb l a e).1 != 127)) (rb l a e).2.2 3) w) := by
  have hx := rb_range h.by_ a e
  have := presult_core h (rb l a e).1 _ _ _ _ _ rfl rfl rfl (IntWalk.i64_in _ (by omega)) (rb_le h.at_le) fun W H => pnext_any H
  have e1 : (bif ((rb l a e).1 == 64) then (0 : Int) else (rb l a e).1) = rz (rb l a e).1 := by
    unfold rz
    by_cases h64 : (rb l a e).1 = 64
    · simp [h64]
    · rw [if_neg h64, show ((rb l a e).1 == 64) = false from by simpa using h64]
      rfl
  have e2 : (!((rb l a e).1 == 64) && ((rb l a e).1 != 127 && (rb l a e).1 != 126)) = ((rb l a e).1 != 64 && ((rb l a e).1 != 126 && (rb l a e).1 != 127)) := by
    rw [Bool.and_comm ((rb l a e).1 != 127)]
    rfl
  rw [e1, e2] at this
  exact this
/-- 'append(s, y)' on whole numbers of the call's own. -/
theorem wp_oneI {ops : Array Oper} {rest : List Oper} {o : Oper} {a : Act} {Q : Exit → Act → World → Prop} (w : World) (hgd : o.guard = none) (s x : Operand)
    (ho : o.op = .call { callee := .builtin .append, args := #[s, x], argTypes := #[44, 44] }) (B : Nat) (v : Value) (done : List Int) (y : Int) (hs : a.eval s = v) (hown : OwnI w B v done)
    (hx : a.eval x = .slice (some ⟨w.heap.size, 0, none⟩) 1 1) (hlen : done.length ≤ 10000000) (hB : B ≤ w.heap.size)
    (h : ∀ v' w', OwnI w' B v' (done ++ [y]) → Below B w w' → wpList Tryd.prog ops Q rest (a.put o.dst v') w') : wpList Tryd.prog ops Q (o :: rest) a (w.alloc (.cells #[.int .i64 y] 3)) := by
  obtain ⟨i0, hi, hz0, hz1, hz2⟩ := info_parts int_info
  refine wpList_append_own _ hgd s x 44 ho B 3 i0 (.int .i64 0) 1 8 Tryd.underlying44 hi hz0 hz1 hz2 rfl (by decide) v _ _ hs (World.ownsRow.alloc hown _) ⟨w.heap.size, 0, none⟩ 1 1 [.int .i64 y] hx rfl (one_newI w _) (by intro u hu; simp at hu; subst hu; rfl) (by simp only [maxLen]; omega) (by omega) (by simp; omega) ?_
  intro v' w' ho' hg hn
  refine h v' w' ?_ (((Below.refl _ _).alloc hB _).grown hg (by simp; omega) (fun k hk => (World.ownsRow.lt hown k hk).1))
  have ho2 : w'.ownsRow B 3 1 v' (done ++ [y]).length (vi (done ++ [y])) := by simpa [vi] using ho'
  exact ho2
/-- Labels: as many numbers as are asked for; behind an error they are 0. -/
def plb (l : List Int) : Nat → List Int → Nat → Int → List Int × Nat × Int
  | 0, L, a, e => (L, a, e)
  | n + 1, L, a, e => plb l n (L ++ [(pu l a e).1]) (pu l a e).2.1 (pu l a e).2.2
theorem plb_one {l : List Int} {k N : Nat} {L : List Int} {b : Nat} {e : Int} (h : k < N) : plb l (N - (k + 1)) (L ++ [(pu l b e).1]) (pu l b e).2.1 (pu l b e).2.2 = plb l (N - k) L b e := by
  rw [show N - k = (N - (k + 1)) + 1 from by omega]
  rfl
theorem plb_le {l : List Int} : ∀ (n : Nat) (L : List Int) (a : Nat) (e : Int), a ≤ l.length → (plb l n L a e).2.1 ≤ l.length
  | 0, _, _, _, h => h
  | n + 1, _, _, _, h => plb_le n _ _ _ (pu_le h)
/-- Labels, told; the place; the error. -/
def LabTold (v : Value) (g : Nat) (x : List Int × Nat × Int) (w : World) (en : Ending) (w' : World) : Prop := ∃ o, en = .returned o ∧ OwnI w' w.heap.size o x.1 ∧ RdAt w' g v (x.2.1 : Int) x.2.2 ∧ But g w w'
def PMid (w0 : World) (v : Value) (l : List Int) (g : Nat) (w : World) (N : Nat) (R : List Int × Nat × Int) (k : Nat) (L : List Int) (a : Nat) (e : Int) (o : Value) (wr : World) : Prop :=
  k ≤ N ∧ plb l (N - k) L a e = R ∧ L.length = k ∧ Rd w0 v l g wr a e ∧ OwnI wr w.heap.size o L ∧ But g w wr
theorem plab_many {w0 w : World} {v : Value} {l : List Int} {g a : Nat} {e : Int} (hr : Rd w0 v l g w a e) (N a1 : Nat) (e1 : Int) (q1 : decide ((64 : Int) < (N : Int)) = true) (h1 : a1 ≤ l.length)
    (hN : ∀ W, Rd w0 v l g W a e → Calls Tryd.prog 67 #[.pointer (some ⟨g, 0, none⟩)] W (Turn v g (.int .i64 (N : Int)) a1 e1 W)) :
    Calls Tryd.prog 68 #[.pointer (some ⟨g, 0, none⟩)] w (LabTold v g ([], a1, rf true e1 4) w) := by
  have HR := Lib.hid hr
  have HN := Lib.hid hN
  have HH1 := Lib.hid h1
  clear hr hN h1
  go_enter Tryd.func68, Tryd.ntmps68
  go_wp2_with fail
  refine (HN.out _ HR.out).mono ?_
  rintro en w1 ⟨rfl, hr1, hb1⟩
  have HR1 := Lib.hid (HR.out.turn hr1 hb1 HH1.out)
  have HB1 := Lib.hid hb1
  clear hr1 hb1
  go_wp2_with fail
  refine (pfail_any 4 HR1.out).mono ?_
  rintro en w2 ⟨rfl, hr2, hb2⟩
  have HR2 := Lib.hid hr2
  have HB2 := Lib.hid (HB1.out.trans hb2)
  clear hr2 hb2
  go_wp2_with fail
  go_ret
  exact ⟨_, rfl, ownI_nil _ _, HR2.out, HB2.out⟩
theorem plab_few {w0 w : World} {v : Value} {l : List Int} {g a : Nat} {e : Int} (hr : Rd w0 v l g w a e) (N a1 : Nat) (e1 : Int) (q1 : decide ((64 : Int) < (N : Int)) = false) (h1 : a1 ≤ l.length)
    (hN : ∀ W, Rd w0 v l g W a e → Calls Tryd.prog 67 #[.pointer (some ⟨g, 0, none⟩)] W (Turn v g (.int .i64 (N : Int)) a1 e1 W)) :
    Calls Tryd.prog 68 #[.pointer (some ⟨g, 0, none⟩)] w (LabTold v g (plb l N [] a1 e1) w) := by
  have hN64 : N ≤ 64 := by have := q1; simp at this; omega
  have HR := Lib.hid hr
  have HN := Lib.hid hN
  have HH1 := Lib.hid h1
  have HG : Hid (g < w.heap.size) := hr.rd.lt
  have H0 : Hid (w0.heap.size ≤ w.heap.size) := hr.below.size
  clear hr hN h1
  go_enter Tryd.func68, Tryd.ntmps68
  go_wp2_with fail
  refine (HN.out _ HR.out).mono ?_
  rintro en w1 ⟨rfl, hr1, hb1⟩
  have HR1 := Lib.hid (HR.out.turn hr1 hb1 HH1.out)
  have HB1 := Lib.hid hb1
  clear hr1 hb1
  go_wp2_with fail
  go_loopw [4, 12] (fun v' j' wr => ∃ (k : Nat) (L : List Int) (a : Nat) (e : Int), j' = .int .i64 (k : Int) ∧ PMid w0 v l g w N (plb l N [] a1 e1) k L a e v' wr) (fun _ j' _ => N - (intOf j').toNat)
  case atStart => exact ⟨0, [], a1, e1, rfl, Nat.zero_le _, rfl, rfl, HR1.out, ownI_nil _ _, HB1.out⟩
  case round =>
    clear HR1 HB1
    obtain ⟨k, L, b, d, rfl, hk, hL, hlen, hR, hOw, hBt⟩ := hrel
    have HR := Lib.hid hR
    have HB := Lib.hid hBt
    have HOw := Lib.hid hOw
    have HL := Lib.hid hL
    clear hR hBt hOw hL
    by_cases hlt : k < N
    · have c1 : decide ((k : Int) < (N : Int)) = true := by simpa using hlt
      go_wp2_with fail
      refine (pu_any HR.out).mono ?_
      rintro en w2 ⟨rfl, hr2, hb2⟩
      have HR2 := Lib.hid (HR.out.turn hr2 hb2 (pu_le HR.out.at_le))
      have HB2 := Lib.hid (HB.out.trans hb2)
      have HOw2 := Lib.hid (HOw.out.but hb2 HG.out)
      clear hr2 hb2
      go_wp2_with (at_builtin; refine wp_oneI w2 rfl (.tmp 14) (.tmp 17) rfl w.heap.size _ L _ rfl HOw2.out rfl (by omega) HB2.out.size ?_; intro v3 w3 ho3 hb3; have HO3 := Lib.hid ho3; have HR3 := Lib.hid (HR2.out.kept hb3 HG.out H0.out); have HB3 := Lib.hid (HB2.out.kept hb3 (Nat.le_refl _)); clear ho3 hb3; go_wp2_with fail)
      go_roundw
      case rel => exact ⟨k + 1, L ++ [(pu l b d).1], _, _, by go_num, hlt, (plb_one hlt).trans HL.out, by simp [hlen], HR3.out, HO3.out, HB3.out⟩
      case measure => simp [intOf]; omega
    · have c1 : decide ((k : Int) < (N : Int)) = false := by simpa using hlt
      have hx : plb l (N - k) L b d = (L, b, d) := by rw [show N - k = 0 from by omega]; rfl
      have hy : plb l N [] a1 e1 = (L, b, d) := HL.out.symm.trans hx
      have HY := Lib.hid hy
      clear hx hy
      go_wp2_with fail
      go_ret
      rw [HY.out]
      exact ⟨_, rfl, HOw.out, HR.out.rd, HB.out⟩
theorem pu_range {l : List Int} (hb : ∀ x ∈ l, 0 ≤ x ∧ x < 256) (a : Nat) (e : Int) : 0 ≤ (pu l a e).1 ∧ (pu l a e).1 < 4294967296 := by
  unfold pu
  split
  · exact ⟨by simp, by simp⟩
  · cases hr : Leb.rdl Leb.fitU 32 (l.drop a) 0 0 with
    | short => exact ⟨by simp, by simp⟩
    | form => exact ⟨by simp, by simp⟩
    | ok n m =>
      have hn := (rdl32 (fun x hx => hb x (List.mem_of_mem_drop hx)) hr).1
      exact ⟨by simp, by simp; omega⟩
/-- Labels, by the program. -/
def pla (l : List Int) (a : Nat) (e : Int) : List Int × Nat × Int := if 64 < (pu l a e).1 then ([], (pu l a e).2.1, rf true (pu l a e).2.2 4) else plb l (pu l a e).1.toNat [] (pu l a e).2.1 (pu l a e).2.2
theorem plabels_any {w0 w : World} {v : Value} {l : List Int} {g a : Nat} {e : Int} (h : Rd w0 v l g w a e) :
    Calls Tryd.prog 68 #[.pointer (some ⟨g, 0, none⟩)] w (LabTold v g (pla l a e) w) := by
  have hx := pu_range h.by_ a e
  have hn : (((pu l a e).1.toNat : Nat) : Int) = (pu l a e).1 := by omega
  have hN : ∀ W, Rd w0 v l g W a e → Calls Tryd.prog 67 #[.pointer (some ⟨g, 0, none⟩)] W (Turn v g (.int .i64 (((pu l a e).1.toNat : Nat) : Int)) (pu l a e).2.1 (pu l a e).2.2 W) := fun W H => by rw [hn]; exact pu_any H
  unfold pla
  by_cases h64 : 64 < (pu l a e).1
  · rw [if_pos h64]
    exact plab_many h _ _ _ (by rw [hn]; simpa using h64) (pu_le h.at_le) hN
  · rw [if_neg h64]
    exact plab_few h _ _ _ (by rw [hn]; simpa using h64) (pu_le h.at_le) hN
theorem pla_le {l : List Int} {a : Nat} {e : Int} (h : a ≤ l.length) : (pla l a e).2.1 ≤ l.length := by
  unfold pla
  split
  · exact pu_le h
  · exact plb_le _ _ _ _ (pu_le h)
end Go.Proofs.YtdmidagcdhhlhaaDoor.Ins

/- The program's reader: the next instruction, kind by kind, A. -/
namespace Go.Proofs.YtdmidagcdhhlhaaDoor.Ins
open Go.RowKit Ints Typ
set_option maxRecDepth 100000
set_option maxHeartbeats 2000000
set_option linter.unusedVariables false

theorem pin_plain {w0 w : World} {v : Value} {l : List Int} {g a : Nat} {e : Int} (hr : Rd w0 v l g w a e) (op e1 : Int) (a1 : Nat)
    (h1 : a1 ≤ l.length)
    (hop : IntKind.i64.wrap op = op)
    (hB : ∀ W, Rd w0 v l g W a e → Calls Tryd.prog 64 #[.pointer (some ⟨g, 0, none⟩)] W (Turn v g (.int .u8 op) a1 e1 W))
    (hK : ∀ W, Below w0.heap.size w0 W → Calls Tryd.prog 50 #[.int .i64 op] W fun en w' => en = .returned (.int .i64 1) ∧ Below W.heap.size W w')
    : Calls Tryd.prog 48 #[.pointer (some ⟨g, 0, none⟩)] w (InTold v g op (0) (0) (0) [] a1 e1 w) := by
  have HR := Lib.hid hr
  have HG : Hid (w.heap.size ≠ g) := by have := hr.rd.lt; show _ ≠ _; omega
  have HH1 := Lib.hid h1
  have HB0 := Lib.hid hB
  have HK := Lib.hid hK
  clear hr h1 hB hK
  go_enter Tryd.func48, Tryd.ntmps48
  go_wp2_with fail
  have HA := Lib.hid ((Below.refl w.heap.size w).alloc (Nat.le_refl _) (.cells #[.int .i64 0, .int .i64 0, .int .i64 0, .int .u64 0, .slice none 0 0] 50))
  refine (HB0.out _ (HR.out.keep HA.out)).mono ?_
  rintro en w1 ⟨rfl, hr1, hb1⟩
  have HR := Lib.hid ((HR.out.keep HA.out).turn hr1 hb1 HH1.out)
  have HO := Lib.hid ((InAt.at_ w w.heap.size 0 0 0 0 (.slice none 0 0) 50 rfl).but hb1 HG.out)
  have HB := Lib.hid (((But.refl g w).allocHigh (.cells #[.int .i64 0, .int .i64 0, .int .i64 0, .int .u64 0, .slice none 0 0] 50)).trans hb1)
  clear hr1 hb1
  go_wp2_with fail
  have HA1 := Lib.hid ((Below.refl w1.heap.size w1).alloc (Nat.le_refl _) (.cells #[.int .i64 op, .int .i64 0, .int .i64 0, .int .u64 0, .slice none 0 0] 50))
  refine (HK.out _ (HR.out.keep HA1.out).below).mono ?_
  rintro en w2 ⟨rfl, hb2⟩
  have HC := Lib.hid (HA1.out.trans (hb2.mono HA1.out.size))
  have HI := Lib.hid ((InAt.at_ w1 w1.heap.size op 0 0 0 (.slice none 0 0) 50 rfl).keep hb2)
  have HHG : Hid (w1.heap.size ≠ g) := by have := HR.out.rd.lt; show _ ≠ _; omega
  have HW0 : Hid (w0.heap.size ≤ w1.heap.size) := HR.out.below.size
  have HWW : Hid (w.heap.size ≤ w1.heap.size) := HB.out.size
  have HHO : Hid (w1.heap.size ≠ w.heap.size) := by have := HO.out.lt; show _ ≠ _; omega
  have HR := Lib.hid (HR.out.keep HC.out)
  have HO := Lib.hid (HO.out.keep HC.out)
  have HB := Lib.hid (HB.out.trans (But.of_below HC.out))
  clear hb2
  obtain ⟨i0, ic0, ic1, ic2, ic3, ic4, if0, if1, if2, if3, if4⟩ := HI.out
  obtain ⟨o0, oc0, oc1, oc2, oc3, oc4, of0, of1, of2, of3, of4⟩ := HO.out
  go_wp2_with fail
  refine bodyPost_ret (v := .agg #[.int .i64 op, .int .i64 (0), .int .i64 (0), .int .u64 (0), .slice none 0 0]) (by simp [results, Tryd.results48, go_sem, oc0, oc1, oc2, oc3, oc4]) rfl ⟨_, rfl, ownI_nil _ _, ?_, ?_⟩
  · exact (((((HR.out.rd.far (p := ⟨w.heap.size, 0, none⟩) HG.out _).far (p := ⟨w.heap.size, 1, none⟩) HG.out _).far (p := ⟨w.heap.size, 2, none⟩) HG.out _).far (p := ⟨w.heap.size, 3, none⟩) HG.out _).far (p := ⟨w.heap.size, 4, none⟩) HG.out _)
  · exact (((((HB.out.setHigh (p := ⟨w.heap.size, 0, none⟩) (Nat.le_refl _) _).setHigh (p := ⟨w.heap.size, 1, none⟩) (Nat.le_refl _) _).setHigh (p := ⟨w.heap.size, 2, none⟩) (Nat.le_refl _) _).setHigh (p := ⟨w.heap.size, 3, none⟩) (Nat.le_refl _) _).setHigh (p := ⟨w.heap.size, 4, none⟩) (Nat.le_refl _) _)
theorem pin_bad {w0 w : World} {v : Value} {l : List Int} {g a : Nat} {e : Int} (hr : Rd w0 v l g w a e) (op e1 : Int) (a1 : Nat) (f2 : Int)
    (h1 : a1 ≤ l.length)
    (hop : IntKind.i64.wrap op = op)
    (hB : ∀ W, Rd w0 v l g W a e → Calls Tryd.prog 64 #[.pointer (some ⟨g, 0, none⟩)] W (Turn v g (.int .u8 op) a1 e1 W))
    (hK : ∀ W, Below w0.heap.size w0 W → Calls Tryd.prog 50 #[.int .i64 op] W fun en w' => en = .returned (.int .i64 0) ∧ Below W.heap.size W w')
    (hF2 : ∀ W, Rd w0 v l g W a1 e1 → Calls Tryd.prog 65 #[.pointer (some ⟨g, 0, none⟩), .int .i64 3] W (Turn v g (.tuple #[]) a1 f2 W))
    : Calls Tryd.prog 48 #[.pointer (some ⟨g, 0, none⟩)] w (InTold v g op (0) (0) (0) [] a1 f2 w) := by
  have HR := Lib.hid hr
  have HG : Hid (w.heap.size ≠ g) := by have := hr.rd.lt; show _ ≠ _; omega
  have HH1 := Lib.hid h1
  have HB0 := Lib.hid hB
  have HK := Lib.hid hK
  have HF2 := Lib.hid hF2
  clear hr h1 hB hK hF2
  go_enter Tryd.func48, Tryd.ntmps48
  go_wp2_with fail
  have HA := Lib.hid ((Below.refl w.heap.size w).alloc (Nat.le_refl _) (.cells #[.int .i64 0, .int .i64 0, .int .i64 0, .int .u64 0, .slice none 0 0] 50))
  refine (HB0.out _ (HR.out.keep HA.out)).mono ?_
  rintro en w1 ⟨rfl, hr1, hb1⟩
  have HR := Lib.hid ((HR.out.keep HA.out).turn hr1 hb1 HH1.out)
  have HO := Lib.hid ((InAt.at_ w w.heap.size 0 0 0 0 (.slice none 0 0) 50 rfl).but hb1 HG.out)
  have HB := Lib.hid (((But.refl g w).allocHigh (.cells #[.int .i64 0, .int .i64 0, .int .i64 0, .int .u64 0, .slice none 0 0] 50)).trans hb1)
  clear hr1 hb1
  go_wp2_with fail
  have HA1 := Lib.hid ((Below.refl w1.heap.size w1).alloc (Nat.le_refl _) (.cells #[.int .i64 op, .int .i64 0, .int .i64 0, .int .u64 0, .slice none 0 0] 50))
  refine (HK.out _ (HR.out.keep HA1.out).below).mono ?_
  rintro en w2 ⟨rfl, hb2⟩
  have HC := Lib.hid (HA1.out.trans (hb2.mono HA1.out.size))
  have HI := Lib.hid ((InAt.at_ w1 w1.heap.size op 0 0 0 (.slice none 0 0) 50 rfl).keep hb2)
  have HHG : Hid (w1.heap.size ≠ g) := by have := HR.out.rd.lt; show _ ≠ _; omega
  have HW0 : Hid (w0.heap.size ≤ w1.heap.size) := HR.out.below.size
  have HWW : Hid (w.heap.size ≤ w1.heap.size) := HB.out.size
  have HHO : Hid (w1.heap.size ≠ w.heap.size) := by have := HO.out.lt; show _ ≠ _; omega
  have HR := Lib.hid (HR.out.keep HC.out)
  have HO := Lib.hid (HO.out.keep HC.out)
  have HB := Lib.hid (HB.out.trans (But.of_below HC.out))
  clear hb2
  obtain ⟨i0, ic0, ic1, ic2, ic3, ic4, if0, if1, if2, if3, if4⟩ := HI.out
  go_wp2_with fail
  refine (HF2.out _ HR.out).mono ?_
  rintro en w3 ⟨rfl, hr, hb⟩
  have HR := Lib.hid (HR.out.turn hr hb HR.out.at_le)
  have HI := Lib.hid (HI.out.but hb HHG.out)
  have HO := Lib.hid (HO.out.but hb HG.out)
  have HB := Lib.hid (HB.out.trans hb)
  clear hr hb
  clear i0 ic0 ic1 ic2 ic3 ic4 if0 if1 if2 if3 if4
  obtain ⟨i0, ic0, ic1, ic2, ic3, ic4, if0, if1, if2, if3, if4⟩ := HI.out
  obtain ⟨o0, oc0, oc1, oc2, oc3, oc4, of0, of1, of2, of3, of4⟩ := HO.out
  go_wp2_with fail
  refine bodyPost_ret (v := .agg #[.int .i64 op, .int .i64 (0), .int .i64 (0), .int .u64 (0), .slice none 0 0]) (by simp [results, Tryd.results48, go_sem, oc0, oc1, oc2, oc3, oc4]) rfl ⟨_, rfl, ownI_nil _ _, ?_, ?_⟩
  · exact (((((HR.out.rd.far (p := ⟨w.heap.size, 0, none⟩) HG.out _).far (p := ⟨w.heap.size, 1, none⟩) HG.out _).far (p := ⟨w.heap.size, 2, none⟩) HG.out _).far (p := ⟨w.heap.size, 3, none⟩) HG.out _).far (p := ⟨w.heap.size, 4, none⟩) HG.out _)
  · exact (((((HB.out.setHigh (p := ⟨w.heap.size, 0, none⟩) (Nat.le_refl _) _).setHigh (p := ⟨w.heap.size, 1, none⟩) (Nat.le_refl _) _).setHigh (p := ⟨w.heap.size, 2, none⟩) (Nat.le_refl _) _).setHigh (p := ⟨w.heap.size, 3, none⟩) (Nat.le_refl _) _).setHigh (p := ⟨w.heap.size, 4, none⟩) (Nat.le_refl _) _)
theorem pin_block {w0 w : World} {v : Value} {l : List Int} {g a : Nat} {e : Int} (hr : Rd w0 v l g w a e) (op e1 : Int) (a1 : Nat) (x : Int) (a2 : Nat) (e2 : Int)
    (h1 : a1 ≤ l.length)
    (hop : IntKind.i64.wrap op = op)
    (hB : ∀ W, Rd w0 v l g W a e → Calls Tryd.prog 64 #[.pointer (some ⟨g, 0, none⟩)] W (Turn v g (.int .u8 op) a1 e1 W))
    (hK : ∀ W, Below w0.heap.size w0 W → Calls Tryd.prog 50 #[.int .i64 op] W fun en w' => en = .returned (.int .i64 2) ∧ Below W.heap.size W w')
    (hresult2 : ∀ W, Rd w0 v l g W a1 e1 → Calls Tryd.prog 66 #[.pointer (some ⟨g, 0, none⟩)] W (Turn v g (.int .i64 x) a2 e2 W))
    (hl2 : a2 ≤ l.length)
    : Calls Tryd.prog 48 #[.pointer (some ⟨g, 0, none⟩)] w (InTold v g op (x) (0) (0) [] a2 e2 w) := by
  have HR := Lib.hid hr
  have HG : Hid (w.heap.size ≠ g) := by have := hr.rd.lt; show _ ≠ _; omega
  have HH1 := Lib.hid h1
  have HB0 := Lib.hid hB
  have HK := Lib.hid hK
  have Hresult2 := Lib.hid hresult2
  clear hr h1 hB hK hresult2
  go_enter Tryd.func48, Tryd.ntmps48
  go_wp2_with fail
  have HA := Lib.hid ((Below.refl w.heap.size w).alloc (Nat.le_refl _) (.cells #[.int .i64 0, .int .i64 0, .int .i64 0, .int .u64 0, .slice none 0 0] 50))
  refine (HB0.out _ (HR.out.keep HA.out)).mono ?_
  rintro en w1 ⟨rfl, hr1, hb1⟩
  have HR := Lib.hid ((HR.out.keep HA.out).turn hr1 hb1 HH1.out)
  have HO := Lib.hid ((InAt.at_ w w.heap.size 0 0 0 0 (.slice none 0 0) 50 rfl).but hb1 HG.out)
  have HB := Lib.hid (((But.refl g w).allocHigh (.cells #[.int .i64 0, .int .i64 0, .int .i64 0, .int .u64 0, .slice none 0 0] 50)).trans hb1)
  clear hr1 hb1
  go_wp2_with fail
  have HA1 := Lib.hid ((Below.refl w1.heap.size w1).alloc (Nat.le_refl _) (.cells #[.int .i64 op, .int .i64 0, .int .i64 0, .int .u64 0, .slice none 0 0] 50))
  refine (HK.out _ (HR.out.keep HA1.out).below).mono ?_
  rintro en w2 ⟨rfl, hb2⟩
  have HC := Lib.hid (HA1.out.trans (hb2.mono HA1.out.size))
  have HI := Lib.hid ((InAt.at_ w1 w1.heap.size op 0 0 0 (.slice none 0 0) 50 rfl).keep hb2)
  have HHG : Hid (w1.heap.size ≠ g) := by have := HR.out.rd.lt; show _ ≠ _; omega
  have HW0 : Hid (w0.heap.size ≤ w1.heap.size) := HR.out.below.size
  have HWW : Hid (w.heap.size ≤ w1.heap.size) := HB.out.size
  have HHO : Hid (w1.heap.size ≠ w.heap.size) := by have := HO.out.lt; show _ ≠ _; omega
  have HR := Lib.hid (HR.out.keep HC.out)
  have HO := Lib.hid (HO.out.keep HC.out)
  have HB := Lib.hid (HB.out.trans (But.of_below HC.out))
  clear hb2
  obtain ⟨i0, ic0, ic1, ic2, ic3, ic4, if0, if1, if2, if3, if4⟩ := HI.out
  go_wp2_with fail
  refine (Hresult2.out _ HR.out).mono ?_
  rintro en w3 ⟨rfl, hr, hb⟩
  have HR := Lib.hid (HR.out.turn hr hb hl2)
  have HI := Lib.hid (HI.out.but hb HHG.out)
  have HO := Lib.hid (HO.out.but hb HG.out)
  have HB := Lib.hid (HB.out.trans hb)
  clear hr hb
  clear i0 ic0 ic1 ic2 ic3 ic4 if0 if1 if2 if3 if4
  obtain ⟨i0, ic0, ic1, ic2, ic3, ic4, if0, if1, if2, if3, if4⟩ := HI.out
  obtain ⟨o0, oc0, oc1, oc2, oc3, oc4, of0, of1, of2, of3, of4⟩ := HO.out
  have hn1 : w1.heap.size ≠ w.heap.size := HHO.out
  have hn2 : w.heap.size ≠ w1.heap.size := fun e => HHO.out e.symm
  go_wp2_with fail
  have HR := Lib.hid (HR.out.far (p := ⟨w1.heap.size, 1, none⟩) HHG.out HW0.out (.int .i64 (x)))
  have HI := Lib.hid (HI.out.setA (x))
  have HO := Lib.hid (HO.out.far (p := ⟨w1.heap.size, 1, none⟩) HHO.out (.int .i64 (x)))
  have HB := Lib.hid (HB.out.setHigh (p := ⟨w1.heap.size, 1, none⟩) HWW.out (.int .i64 (x)))
  refine bodyPost_ret (v := .agg #[.int .i64 op, .int .i64 (x), .int .i64 (0), .int .u64 (0), .slice none 0 0]) (by simp [results, Tryd.results48, go_sem, oc0, oc1, oc2, oc3, oc4]) rfl ⟨_, rfl, ownI_nil _ _, ?_, ?_⟩
  · exact (((((HR.out.rd.far (p := ⟨w.heap.size, 0, none⟩) HG.out _).far (p := ⟨w.heap.size, 1, none⟩) HG.out _).far (p := ⟨w.heap.size, 2, none⟩) HG.out _).far (p := ⟨w.heap.size, 3, none⟩) HG.out _).far (p := ⟨w.heap.size, 4, none⟩) HG.out _)
  · exact (((((HB.out.setHigh (p := ⟨w.heap.size, 0, none⟩) (Nat.le_refl _) _).setHigh (p := ⟨w.heap.size, 1, none⟩) (Nat.le_refl _) _).setHigh (p := ⟨w.heap.size, 2, none⟩) (Nat.le_refl _) _).setHigh (p := ⟨w.heap.size, 3, none⟩) (Nat.le_refl _) _).setHigh (p := ⟨w.heap.size, 4, none⟩) (Nat.le_refl _) _)
theorem pin_index {w0 w : World} {v : Value} {l : List Int} {g a : Nat} {e : Int} (hr : Rd w0 v l g w a e) (op e1 : Int) (a1 : Nat) (x : Int) (a2 : Nat) (e2 : Int)
    (h1 : a1 ≤ l.length)
    (hop : IntKind.i64.wrap op = op)
    (hB : ∀ W, Rd w0 v l g W a e → Calls Tryd.prog 64 #[.pointer (some ⟨g, 0, none⟩)] W (Turn v g (.int .u8 op) a1 e1 W))
    (hK : ∀ W, Below w0.heap.size w0 W → Calls Tryd.prog 50 #[.int .i64 op] W fun en w' => en = .returned (.int .i64 3) ∧ Below W.heap.size W w')
    (hnumber2 : ∀ W, Rd w0 v l g W a1 e1 → Calls Tryd.prog 67 #[.pointer (some ⟨g, 0, none⟩)] W (Turn v g (.int .i64 x) a2 e2 W))
    (hl2 : a2 ≤ l.length)
    : Calls Tryd.prog 48 #[.pointer (some ⟨g, 0, none⟩)] w (InTold v g op (x) (0) (0) [] a2 e2 w) := by
  have HR := Lib.hid hr
  have HG : Hid (w.heap.size ≠ g) := by have := hr.rd.lt; show _ ≠ _; omega
  have HH1 := Lib.hid h1
  have HB0 := Lib.hid hB
  have HK := Lib.hid hK
  have Hnumber2 := Lib.hid hnumber2
  clear hr h1 hB hK hnumber2
  go_enter Tryd.func48, Tryd.ntmps48
  go_wp2_with fail
  have HA := Lib.hid ((Below.refl w.heap.size w).alloc (Nat.le_refl _) (.cells #[.int .i64 0, .int .i64 0, .int .i64 0, .int .u64 0, .slice none 0 0] 50))
  refine (HB0.out _ (HR.out.keep HA.out)).mono ?_
  rintro en w1 ⟨rfl, hr1, hb1⟩
  have HR := Lib.hid ((HR.out.keep HA.out).turn hr1 hb1 HH1.out)
  have HO := Lib.hid ((InAt.at_ w w.heap.size 0 0 0 0 (.slice none 0 0) 50 rfl).but hb1 HG.out)
  have HB := Lib.hid (((But.refl g w).allocHigh (.cells #[.int .i64 0, .int .i64 0, .int .i64 0, .int .u64 0, .slice none 0 0] 50)).trans hb1)
  clear hr1 hb1
  go_wp2_with fail
  have HA1 := Lib.hid ((Below.refl w1.heap.size w1).alloc (Nat.le_refl _) (.cells #[.int .i64 op, .int .i64 0, .int .i64 0, .int .u64 0, .slice none 0 0] 50))
  refine (HK.out _ (HR.out.keep HA1.out).below).mono ?_
  rintro en w2 ⟨rfl, hb2⟩
  have HC := Lib.hid (HA1.out.trans (hb2.mono HA1.out.size))
  have HI := Lib.hid ((InAt.at_ w1 w1.heap.size op 0 0 0 (.slice none 0 0) 50 rfl).keep hb2)
  have HHG : Hid (w1.heap.size ≠ g) := by have := HR.out.rd.lt; show _ ≠ _; omega
  have HW0 : Hid (w0.heap.size ≤ w1.heap.size) := HR.out.below.size
  have HWW : Hid (w.heap.size ≤ w1.heap.size) := HB.out.size
  have HHO : Hid (w1.heap.size ≠ w.heap.size) := by have := HO.out.lt; show _ ≠ _; omega
  have HR := Lib.hid (HR.out.keep HC.out)
  have HO := Lib.hid (HO.out.keep HC.out)
  have HB := Lib.hid (HB.out.trans (But.of_below HC.out))
  clear hb2
  obtain ⟨i0, ic0, ic1, ic2, ic3, ic4, if0, if1, if2, if3, if4⟩ := HI.out
  go_wp2_with fail
  refine (Hnumber2.out _ HR.out).mono ?_
  rintro en w3 ⟨rfl, hr, hb⟩
  have HR := Lib.hid (HR.out.turn hr hb hl2)
  have HI := Lib.hid (HI.out.but hb HHG.out)
  have HO := Lib.hid (HO.out.but hb HG.out)
  have HB := Lib.hid (HB.out.trans hb)
  clear hr hb
  clear i0 ic0 ic1 ic2 ic3 ic4 if0 if1 if2 if3 if4
  obtain ⟨i0, ic0, ic1, ic2, ic3, ic4, if0, if1, if2, if3, if4⟩ := HI.out
  obtain ⟨o0, oc0, oc1, oc2, oc3, oc4, of0, of1, of2, of3, of4⟩ := HO.out
  have hn1 : w1.heap.size ≠ w.heap.size := HHO.out
  have hn2 : w.heap.size ≠ w1.heap.size := fun e => HHO.out e.symm
  go_wp2_with fail
  have HR := Lib.hid (HR.out.far (p := ⟨w1.heap.size, 1, none⟩) HHG.out HW0.out (.int .i64 (x)))
  have HI := Lib.hid (HI.out.setA (x))
  have HO := Lib.hid (HO.out.far (p := ⟨w1.heap.size, 1, none⟩) HHO.out (.int .i64 (x)))
  have HB := Lib.hid (HB.out.setHigh (p := ⟨w1.heap.size, 1, none⟩) HWW.out (.int .i64 (x)))
  refine bodyPost_ret (v := .agg #[.int .i64 op, .int .i64 (x), .int .i64 (0), .int .u64 (0), .slice none 0 0]) (by simp [results, Tryd.results48, go_sem, oc0, oc1, oc2, oc3, oc4]) rfl ⟨_, rfl, ownI_nil _ _, ?_, ?_⟩
  · exact (((((HR.out.rd.far (p := ⟨w.heap.size, 0, none⟩) HG.out _).far (p := ⟨w.heap.size, 1, none⟩) HG.out _).far (p := ⟨w.heap.size, 2, none⟩) HG.out _).far (p := ⟨w.heap.size, 3, none⟩) HG.out _).far (p := ⟨w.heap.size, 4, none⟩) HG.out _)
  · exact (((((HB.out.setHigh (p := ⟨w.heap.size, 0, none⟩) (Nat.le_refl _) _).setHigh (p := ⟨w.heap.size, 1, none⟩) (Nat.le_refl _) _).setHigh (p := ⟨w.heap.size, 2, none⟩) (Nat.le_refl _) _).setHigh (p := ⟨w.heap.size, 3, none⟩) (Nat.le_refl _) _).setHigh (p := ⟨w.heap.size, 4, none⟩) (Nat.le_refl _) _)
theorem pin_table {w0 w : World} {v : Value} {l : List Int} {g a : Nat} {e : Int} (hr : Rd w0 v l g w a e) (op e1 : Int) (a1 : Nat) (x : Int) (LL : List Int) (a2 : Nat) (e2 : Int) (a3 : Nat) (e3 : Int)
    (h1 : a1 ≤ l.length)
    (hop : IntKind.i64.wrap op = op)
    (hB : ∀ W, Rd w0 v l g W a e → Calls Tryd.prog 64 #[.pointer (some ⟨g, 0, none⟩)] W (Turn v g (.int .u8 op) a1 e1 W))
    (hK : ∀ W, Below w0.heap.size w0 W → Calls Tryd.prog 50 #[.int .i64 op] W fun en w' => en = .returned (.int .i64 4) ∧ Below W.heap.size W w')
    (hLab : ∀ W, Rd w0 v l g W a1 e1 → Calls Tryd.prog 68 #[.pointer (some ⟨g, 0, none⟩)] W (LabTold v g (LL, a2, e2) W))
    (hl2 : a2 ≤ l.length)
    (hnumber3 : ∀ W, Rd w0 v l g W a2 e2 → Calls Tryd.prog 67 #[.pointer (some ⟨g, 0, none⟩)] W (Turn v g (.int .i64 x) a3 e3 W))
    (hl3 : a3 ≤ l.length)
    : Calls Tryd.prog 48 #[.pointer (some ⟨g, 0, none⟩)] w (InTold v g op (x) (0) (0) LL a3 e3 w) := by
  have HR := Lib.hid hr
  have HG : Hid (w.heap.size ≠ g) := by have := hr.rd.lt; show _ ≠ _; omega
  have HH1 := Lib.hid h1
  have HB0 := Lib.hid hB
  have HK := Lib.hid hK
  have HLab := Lib.hid hLab
  have Hnumber3 := Lib.hid hnumber3
  clear hr h1 hB hK hLab hnumber3
  go_enter Tryd.func48, Tryd.ntmps48
  go_wp2_with fail
  have HA := Lib.hid ((Below.refl w.heap.size w).alloc (Nat.le_refl _) (.cells #[.int .i64 0, .int .i64 0, .int .i64 0, .int .u64 0, .slice none 0 0] 50))
  refine (HB0.out _ (HR.out.keep HA.out)).mono ?_
  rintro en w1 ⟨rfl, hr1, hb1⟩
  have HR := Lib.hid ((HR.out.keep HA.out).turn hr1 hb1 HH1.out)
  have HO := Lib.hid ((InAt.at_ w w.heap.size 0 0 0 0 (.slice none 0 0) 50 rfl).but hb1 HG.out)
  have HB := Lib.hid (((But.refl g w).allocHigh (.cells #[.int .i64 0, .int .i64 0, .int .i64 0, .int .u64 0, .slice none 0 0] 50)).trans hb1)
  clear hr1 hb1
  go_wp2_with fail
  have HA1 := Lib.hid ((Below.refl w1.heap.size w1).alloc (Nat.le_refl _) (.cells #[.int .i64 op, .int .i64 0, .int .i64 0, .int .u64 0, .slice none 0 0] 50))
  refine (HK.out _ (HR.out.keep HA1.out).below).mono ?_
  rintro en w2 ⟨rfl, hb2⟩
  have HC := Lib.hid (HA1.out.trans (hb2.mono HA1.out.size))
  have HI := Lib.hid ((InAt.at_ w1 w1.heap.size op 0 0 0 (.slice none 0 0) 50 rfl).keep hb2)
  have HHG : Hid (w1.heap.size ≠ g) := by have := HR.out.rd.lt; show _ ≠ _; omega
  have HW0 : Hid (w0.heap.size ≤ w1.heap.size) := HR.out.below.size
  have HWW : Hid (w.heap.size ≤ w1.heap.size) := HB.out.size
  have HHO : Hid (w1.heap.size ≠ w.heap.size) := by have := HO.out.lt; show _ ≠ _; omega
  have HR := Lib.hid (HR.out.keep HC.out)
  have HO := Lib.hid (HO.out.keep HC.out)
  have HB := Lib.hid (HB.out.trans (But.of_below HC.out))
  clear hb2
  obtain ⟨i0, ic0, ic1, ic2, ic3, ic4, if0, if1, if2, if3, if4⟩ := HI.out
  go_wp2_with fail
  have HWL : Hid (w.heap.size < w2.heap.size) := HO.out.lt
  have HLT : Hid (w1.heap.size < w2.heap.size) := HI.out.lt
  have HGL : Hid (g < w2.heap.size) := HR.out.rd.lt
  refine (HLab.out _ HR.out).mono ?_
  rintro en w3 ⟨o, rfl, ho, hr, hb⟩
  have HR := Lib.hid (HR.out.turn hr hb hl2)
  have HI := Lib.hid (HI.out.but hb HHG.out)
  have HO := Lib.hid (HO.out.but hb HG.out)
  have HB := Lib.hid (HB.out.trans hb)
  obtain ⟨PL, cL, rfl⟩ := ho.form
  have HOw := Lib.hid ho
  clear ho
  clear hr hb
  clear i0 ic0 ic1 ic2 ic3 ic4 if0 if1 if2 if3 if4
  obtain ⟨i0, ic0, ic1, ic2, ic3, ic4, if0, if1, if2, if3, if4⟩ := HI.out
  go_wp2_with fail
  have HR := Lib.hid (HR.out.far (p := ⟨w1.heap.size, 4, none⟩) HHG.out HW0.out (.slice PL LL.length cL))
  have HI := Lib.hid (HI.out.setL (.slice PL LL.length cL))
  have HO := Lib.hid (HO.out.far (p := ⟨w1.heap.size, 4, none⟩) HHO.out (.slice PL LL.length cL))
  have HB := Lib.hid (HB.out.setHigh (p := ⟨w1.heap.size, 4, none⟩) HWW.out (.slice PL LL.length cL))
  have HOw := Lib.hid (HOw.out.far (p := ⟨w1.heap.size, 4, none⟩) HLT.out (.slice PL LL.length cL))
  refine (Hnumber3.out _ HR.out).mono ?_
  rintro en w4 ⟨rfl, hr, hb⟩
  have HR := Lib.hid (HR.out.turn hr hb hl3)
  have HI := Lib.hid (HI.out.but hb HHG.out)
  have HO := Lib.hid (HO.out.but hb HG.out)
  have HB := Lib.hid (HB.out.trans hb)
  have HOw := Lib.hid (HOw.out.but hb HGL.out)
  clear hr hb
  clear i0 ic0 ic1 ic2 ic3 ic4 if0 if1 if2 if3 if4
  obtain ⟨i0, ic0, ic1, ic2, ic3, ic4, if0, if1, if2, if3, if4⟩ := HI.out
  obtain ⟨o0, oc0, oc1, oc2, oc3, oc4, of0, of1, of2, of3, of4⟩ := HO.out
  have hn1 : w1.heap.size ≠ w.heap.size := HHO.out
  have hn2 : w.heap.size ≠ w1.heap.size := fun e => HHO.out e.symm
  go_wp2_with fail
  have HR := Lib.hid (HR.out.far (p := ⟨w1.heap.size, 1, none⟩) HHG.out HW0.out (.int .i64 (x)))
  have HI := Lib.hid (HI.out.setA (x))
  have HO := Lib.hid (HO.out.far (p := ⟨w1.heap.size, 1, none⟩) HHO.out (.int .i64 (x)))
  have HB := Lib.hid (HB.out.setHigh (p := ⟨w1.heap.size, 1, none⟩) HWW.out (.int .i64 (x)))
  have HOw := Lib.hid (HOw.out.far (p := ⟨w1.heap.size, 1, none⟩) HLT.out (.int .i64 (x)))
  refine bodyPost_ret (v := .agg #[.int .i64 op, .int .i64 (x), .int .i64 (0), .int .u64 (0), .slice PL LL.length cL]) (by simp [results, Tryd.results48, go_sem, oc0, oc1, oc2, oc3, oc4]) rfl ⟨_, rfl, ?_, ?_, ?_⟩
  · exact ((((((HOw.out.far (p := ⟨w.heap.size, 0, none⟩) HWL.out _).far (p := ⟨w.heap.size, 1, none⟩) HWL.out _).far (p := ⟨w.heap.size, 2, none⟩) HWL.out _).far (p := ⟨w.heap.size, 3, none⟩) HWL.out _).far (p := ⟨w.heap.size, 4, none⟩) HWL.out _).mono (Nat.le_of_lt HWL.out))
  · exact (((((HR.out.rd.far (p := ⟨w.heap.size, 0, none⟩) HG.out _).far (p := ⟨w.heap.size, 1, none⟩) HG.out _).far (p := ⟨w.heap.size, 2, none⟩) HG.out _).far (p := ⟨w.heap.size, 3, none⟩) HG.out _).far (p := ⟨w.heap.size, 4, none⟩) HG.out _)
  · exact (((((HB.out.setHigh (p := ⟨w.heap.size, 0, none⟩) (Nat.le_refl _) _).setHigh (p := ⟨w.heap.size, 1, none⟩) (Nat.le_refl _) _).setHigh (p := ⟨w.heap.size, 2, none⟩) (Nat.le_refl _) _).setHigh (p := ⟨w.heap.size, 3, none⟩) (Nat.le_refl _) _).setHigh (p := ⟨w.heap.size, 4, none⟩) (Nat.le_refl _) _)
end Go.Proofs.YtdmidagcdhhlhaaDoor.Ins

/- The program's reader: the next instruction, kind by kind, B. -/
namespace Go.Proofs.YtdmidagcdhhlhaaDoor.Ins
open Go.RowKit Ints Typ
set_option maxRecDepth 100000
set_option maxHeartbeats 2000000
set_option linter.unusedVariables false

theorem pin_calli {w0 w : World} {v : Value} {l : List Int} {g a : Nat} {e : Int} (hr : Rd w0 v l g w a e) (op e1 : Int) (a1 : Nat) (x : Int) (a2 : Nat) (e2 : Int) (a3 : Nat) (e3 : Int)
    (h1 : a1 ≤ l.length)
    (hop : IntKind.i64.wrap op = op)
    (hB : ∀ W, Rd w0 v l g W a e → Calls Tryd.prog 64 #[.pointer (some ⟨g, 0, none⟩)] W (Turn v g (.int .u8 op) a1 e1 W))
    (hK : ∀ W, Below w0.heap.size w0 W → Calls Tryd.prog 50 #[.int .i64 op] W fun en w' => en = .returned (.int .i64 5) ∧ Below W.heap.size W w')
    (hnumber2 : ∀ W, Rd w0 v l g W a1 e1 → Calls Tryd.prog 67 #[.pointer (some ⟨g, 0, none⟩)] W (Turn v g (.int .i64 x) a2 e2 W))
    (hl2 : a2 ≤ l.length)
    (hzero3 : ∀ W, Rd w0 v l g W a2 e2 → Calls Tryd.prog 69 #[.pointer (some ⟨g, 0, none⟩)] W (Turn v g (.tuple #[]) a3 e3 W))
    (hl3 : a3 ≤ l.length)
    : Calls Tryd.prog 48 #[.pointer (some ⟨g, 0, none⟩)] w (InTold v g op (x) (0) (0) [] a3 e3 w) := by
  have HR := Lib.hid hr
  have HG : Hid (w.heap.size ≠ g) := by have := hr.rd.lt; show _ ≠ _; omega
  have HH1 := Lib.hid h1
  have HB0 := Lib.hid hB
  have HK := Lib.hid hK
  have Hnumber2 := Lib.hid hnumber2
  have Hzero3 := Lib.hid hzero3
  clear hr h1 hB hK hnumber2 hzero3
  go_enter Tryd.func48, Tryd.ntmps48
  go_wp2_with fail
  have HA := Lib.hid ((Below.refl w.heap.size w).alloc (Nat.le_refl _) (.cells #[.int .i64 0, .int .i64 0, .int .i64 0, .int .u64 0, .slice none 0 0] 50))
  refine (HB0.out _ (HR.out.keep HA.out)).mono ?_
  rintro en w1 ⟨rfl, hr1, hb1⟩
  have HR := Lib.hid ((HR.out.keep HA.out).turn hr1 hb1 HH1.out)
  have HO := Lib.hid ((InAt.at_ w w.heap.size 0 0 0 0 (.slice none 0 0) 50 rfl).but hb1 HG.out)
  have HB := Lib.hid (((But.refl g w).allocHigh (.cells #[.int .i64 0, .int .i64 0, .int .i64 0, .int .u64 0, .slice none 0 0] 50)).trans hb1)
  clear hr1 hb1
  go_wp2_with fail
  have HA1 := Lib.hid ((Below.refl w1.heap.size w1).alloc (Nat.le_refl _) (.cells #[.int .i64 op, .int .i64 0, .int .i64 0, .int .u64 0, .slice none 0 0] 50))
  refine (HK.out _ (HR.out.keep HA1.out).below).mono ?_
  rintro en w2 ⟨rfl, hb2⟩
  have HC := Lib.hid (HA1.out.trans (hb2.mono HA1.out.size))
  have HI := Lib.hid ((InAt.at_ w1 w1.heap.size op 0 0 0 (.slice none 0 0) 50 rfl).keep hb2)
  have HHG : Hid (w1.heap.size ≠ g) := by have := HR.out.rd.lt; show _ ≠ _; omega
  have HW0 : Hid (w0.heap.size ≤ w1.heap.size) := HR.out.below.size
  have HWW : Hid (w.heap.size ≤ w1.heap.size) := HB.out.size
  have HHO : Hid (w1.heap.size ≠ w.heap.size) := by have := HO.out.lt; show _ ≠ _; omega
  have HR := Lib.hid (HR.out.keep HC.out)
  have HO := Lib.hid (HO.out.keep HC.out)
  have HB := Lib.hid (HB.out.trans (But.of_below HC.out))
  clear hb2
  obtain ⟨i0, ic0, ic1, ic2, ic3, ic4, if0, if1, if2, if3, if4⟩ := HI.out
  go_wp2_with fail
  refine (Hnumber2.out _ HR.out).mono ?_
  rintro en w3 ⟨rfl, hr, hb⟩
  have HR := Lib.hid (HR.out.turn hr hb hl2)
  have HI := Lib.hid (HI.out.but hb HHG.out)
  have HO := Lib.hid (HO.out.but hb HG.out)
  have HB := Lib.hid (HB.out.trans hb)
  clear hr hb
  clear i0 ic0 ic1 ic2 ic3 ic4 if0 if1 if2 if3 if4
  obtain ⟨i0, ic0, ic1, ic2, ic3, ic4, if0, if1, if2, if3, if4⟩ := HI.out
  go_wp2_with fail
  have HR := Lib.hid (HR.out.far (p := ⟨w1.heap.size, 1, none⟩) HHG.out HW0.out (.int .i64 (x)))
  have HI := Lib.hid (HI.out.setA (x))
  have HO := Lib.hid (HO.out.far (p := ⟨w1.heap.size, 1, none⟩) HHO.out (.int .i64 (x)))
  have HB := Lib.hid (HB.out.setHigh (p := ⟨w1.heap.size, 1, none⟩) HWW.out (.int .i64 (x)))
  refine (Hzero3.out _ HR.out).mono ?_
  rintro en w4 ⟨rfl, hr, hb⟩
  have HR := Lib.hid (HR.out.turn hr hb hl3)
  have HI := Lib.hid (HI.out.but hb HHG.out)
  have HO := Lib.hid (HO.out.but hb HG.out)
  have HB := Lib.hid (HB.out.trans hb)
  clear hr hb
  clear i0 ic0 ic1 ic2 ic3 ic4 if0 if1 if2 if3 if4
  obtain ⟨i0, ic0, ic1, ic2, ic3, ic4, if0, if1, if2, if3, if4⟩ := HI.out
  obtain ⟨o0, oc0, oc1, oc2, oc3, oc4, of0, of1, of2, of3, of4⟩ := HO.out
  go_wp2_with fail
  refine bodyPost_ret (v := .agg #[.int .i64 op, .int .i64 (x), .int .i64 (0), .int .u64 (0), .slice none 0 0]) (by simp [results, Tryd.results48, go_sem, oc0, oc1, oc2, oc3, oc4]) rfl ⟨_, rfl, ownI_nil _ _, ?_, ?_⟩
  · exact (((((HR.out.rd.far (p := ⟨w.heap.size, 0, none⟩) HG.out _).far (p := ⟨w.heap.size, 1, none⟩) HG.out _).far (p := ⟨w.heap.size, 2, none⟩) HG.out _).far (p := ⟨w.heap.size, 3, none⟩) HG.out _).far (p := ⟨w.heap.size, 4, none⟩) HG.out _)
  · exact (((((HB.out.setHigh (p := ⟨w.heap.size, 0, none⟩) (Nat.le_refl _) _).setHigh (p := ⟨w.heap.size, 1, none⟩) (Nat.le_refl _) _).setHigh (p := ⟨w.heap.size, 2, none⟩) (Nat.le_refl _) _).setHigh (p := ⟨w.heap.size, 3, none⟩) (Nat.le_refl _) _).setHigh (p := ⟨w.heap.size, 4, none⟩) (Nat.le_refl _) _)
theorem pin_mem {w0 w : World} {v : Value} {l : List Int} {g a : Nat} {e : Int} (hr : Rd w0 v l g w a e) (op e1 : Int) (a1 : Nat) (x y : Int) (a2 : Nat) (e2 : Int) (a3 : Nat) (e3 : Int)
    (h1 : a1 ≤ l.length)
    (hop : IntKind.i64.wrap op = op)
    (hB : ∀ W, Rd w0 v l g W a e → Calls Tryd.prog 64 #[.pointer (some ⟨g, 0, none⟩)] W (Turn v g (.int .u8 op) a1 e1 W))
    (hK : ∀ W, Below w0.heap.size w0 W → Calls Tryd.prog 50 #[.int .i64 op] W fun en w' => en = .returned (.int .i64 6) ∧ Below W.heap.size W w')
    (hnumber2 : ∀ W, Rd w0 v l g W a1 e1 → Calls Tryd.prog 67 #[.pointer (some ⟨g, 0, none⟩)] W (Turn v g (.int .i64 x) a2 e2 W))
    (hl2 : a2 ≤ l.length)
    (hnumber3 : ∀ W, Rd w0 v l g W a2 e2 → Calls Tryd.prog 67 #[.pointer (some ⟨g, 0, none⟩)] W (Turn v g (.int .i64 y) a3 e3 W))
    (hl3 : a3 ≤ l.length)
    : Calls Tryd.prog 48 #[.pointer (some ⟨g, 0, none⟩)] w (InTold v g op (x) (y) (0) [] a3 e3 w) := by
  have HR := Lib.hid hr
  have HG : Hid (w.heap.size ≠ g) := by have := hr.rd.lt; show _ ≠ _; omega
  have HH1 := Lib.hid h1
  have HB0 := Lib.hid hB
  have HK := Lib.hid hK
  have Hnumber2 := Lib.hid hnumber2
  have Hnumber3 := Lib.hid hnumber3
  clear hr h1 hB hK hnumber2 hnumber3
  go_enter Tryd.func48, Tryd.ntmps48
  go_wp2_with fail
  have HA := Lib.hid ((Below.refl w.heap.size w).alloc (Nat.le_refl _) (.cells #[.int .i64 0, .int .i64 0, .int .i64 0, .int .u64 0, .slice none 0 0] 50))
  refine (HB0.out _ (HR.out.keep HA.out)).mono ?_
  rintro en w1 ⟨rfl, hr1, hb1⟩
  have HR := Lib.hid ((HR.out.keep HA.out).turn hr1 hb1 HH1.out)
  have HO := Lib.hid ((InAt.at_ w w.heap.size 0 0 0 0 (.slice none 0 0) 50 rfl).but hb1 HG.out)
  have HB := Lib.hid (((But.refl g w).allocHigh (.cells #[.int .i64 0, .int .i64 0, .int .i64 0, .int .u64 0, .slice none 0 0] 50)).trans hb1)
  clear hr1 hb1
  go_wp2_with fail
  have HA1 := Lib.hid ((Below.refl w1.heap.size w1).alloc (Nat.le_refl _) (.cells #[.int .i64 op, .int .i64 0, .int .i64 0, .int .u64 0, .slice none 0 0] 50))
  refine (HK.out _ (HR.out.keep HA1.out).below).mono ?_
  rintro en w2 ⟨rfl, hb2⟩
  have HC := Lib.hid (HA1.out.trans (hb2.mono HA1.out.size))
  have HI := Lib.hid ((InAt.at_ w1 w1.heap.size op 0 0 0 (.slice none 0 0) 50 rfl).keep hb2)
  have HHG : Hid (w1.heap.size ≠ g) := by have := HR.out.rd.lt; show _ ≠ _; omega
  have HW0 : Hid (w0.heap.size ≤ w1.heap.size) := HR.out.below.size
  have HWW : Hid (w.heap.size ≤ w1.heap.size) := HB.out.size
  have HHO : Hid (w1.heap.size ≠ w.heap.size) := by have := HO.out.lt; show _ ≠ _; omega
  have HR := Lib.hid (HR.out.keep HC.out)
  have HO := Lib.hid (HO.out.keep HC.out)
  have HB := Lib.hid (HB.out.trans (But.of_below HC.out))
  clear hb2
  obtain ⟨i0, ic0, ic1, ic2, ic3, ic4, if0, if1, if2, if3, if4⟩ := HI.out
  go_wp2_with fail
  refine (Hnumber2.out _ HR.out).mono ?_
  rintro en w3 ⟨rfl, hr, hb⟩
  have HR := Lib.hid (HR.out.turn hr hb hl2)
  have HI := Lib.hid (HI.out.but hb HHG.out)
  have HO := Lib.hid (HO.out.but hb HG.out)
  have HB := Lib.hid (HB.out.trans hb)
  clear hr hb
  clear i0 ic0 ic1 ic2 ic3 ic4 if0 if1 if2 if3 if4
  obtain ⟨i0, ic0, ic1, ic2, ic3, ic4, if0, if1, if2, if3, if4⟩ := HI.out
  go_wp2_with fail
  have HR := Lib.hid (HR.out.far (p := ⟨w1.heap.size, 1, none⟩) HHG.out HW0.out (.int .i64 (x)))
  have HI := Lib.hid (HI.out.setA (x))
  have HO := Lib.hid (HO.out.far (p := ⟨w1.heap.size, 1, none⟩) HHO.out (.int .i64 (x)))
  have HB := Lib.hid (HB.out.setHigh (p := ⟨w1.heap.size, 1, none⟩) HWW.out (.int .i64 (x)))
  refine (Hnumber3.out _ HR.out).mono ?_
  rintro en w4 ⟨rfl, hr, hb⟩
  have HR := Lib.hid (HR.out.turn hr hb hl3)
  have HI := Lib.hid (HI.out.but hb HHG.out)
  have HO := Lib.hid (HO.out.but hb HG.out)
  have HB := Lib.hid (HB.out.trans hb)
  clear hr hb
  clear i0 ic0 ic1 ic2 ic3 ic4 if0 if1 if2 if3 if4
  obtain ⟨i0, ic0, ic1, ic2, ic3, ic4, if0, if1, if2, if3, if4⟩ := HI.out
  obtain ⟨o0, oc0, oc1, oc2, oc3, oc4, of0, of1, of2, of3, of4⟩ := HO.out
  have hn1 : w1.heap.size ≠ w.heap.size := HHO.out
  have hn2 : w.heap.size ≠ w1.heap.size := fun e => HHO.out e.symm
  go_wp2_with fail
  have HR := Lib.hid (HR.out.far (p := ⟨w1.heap.size, 2, none⟩) HHG.out HW0.out (.int .i64 (y)))
  have HI := Lib.hid (HI.out.setB (y))
  have HO := Lib.hid (HO.out.far (p := ⟨w1.heap.size, 2, none⟩) HHO.out (.int .i64 (y)))
  have HB := Lib.hid (HB.out.setHigh (p := ⟨w1.heap.size, 2, none⟩) HWW.out (.int .i64 (y)))
  refine bodyPost_ret (v := .agg #[.int .i64 op, .int .i64 (x), .int .i64 (y), .int .u64 (0), .slice none 0 0]) (by simp [results, Tryd.results48, go_sem, oc0, oc1, oc2, oc3, oc4]) rfl ⟨_, rfl, ownI_nil _ _, ?_, ?_⟩
  · exact (((((HR.out.rd.far (p := ⟨w.heap.size, 0, none⟩) HG.out _).far (p := ⟨w.heap.size, 1, none⟩) HG.out _).far (p := ⟨w.heap.size, 2, none⟩) HG.out _).far (p := ⟨w.heap.size, 3, none⟩) HG.out _).far (p := ⟨w.heap.size, 4, none⟩) HG.out _)
  · exact (((((HB.out.setHigh (p := ⟨w.heap.size, 0, none⟩) (Nat.le_refl _) _).setHigh (p := ⟨w.heap.size, 1, none⟩) (Nat.le_refl _) _).setHigh (p := ⟨w.heap.size, 2, none⟩) (Nat.le_refl _) _).setHigh (p := ⟨w.heap.size, 3, none⟩) (Nat.le_refl _) _).setHigh (p := ⟨w.heap.size, 4, none⟩) (Nat.le_refl _) _)
theorem pin_memop {w0 w : World} {v : Value} {l : List Int} {g a : Nat} {e : Int} (hr : Rd w0 v l g w a e) (op e1 : Int) (a1 : Nat) (a2 : Nat) (e2 : Int)
    (h1 : a1 ≤ l.length)
    (hop : IntKind.i64.wrap op = op)
    (hB : ∀ W, Rd w0 v l g W a e → Calls Tryd.prog 64 #[.pointer (some ⟨g, 0, none⟩)] W (Turn v g (.int .u8 op) a1 e1 W))
    (hK : ∀ W, Below w0.heap.size w0 W → Calls Tryd.prog 50 #[.int .i64 op] W fun en w' => en = .returned (.int .i64 7) ∧ Below W.heap.size W w')
    (hzero2 : ∀ W, Rd w0 v l g W a1 e1 → Calls Tryd.prog 69 #[.pointer (some ⟨g, 0, none⟩)] W (Turn v g (.tuple #[]) a2 e2 W))
    (hl2 : a2 ≤ l.length)
    : Calls Tryd.prog 48 #[.pointer (some ⟨g, 0, none⟩)] w (InTold v g op (0) (0) (0) [] a2 e2 w) := by
  have HR := Lib.hid hr
  have HG : Hid (w.heap.size ≠ g) := by have := hr.rd.lt; show _ ≠ _; omega
  have HH1 := Lib.hid h1
  have HB0 := Lib.hid hB
  have HK := Lib.hid hK
  have Hzero2 := Lib.hid hzero2
  clear hr h1 hB hK hzero2
  go_enter Tryd.func48, Tryd.ntmps48
  go_wp2_with fail
  have HA := Lib.hid ((Below.refl w.heap.size w).alloc (Nat.le_refl _) (.cells #[.int .i64 0, .int .i64 0, .int .i64 0, .int .u64 0, .slice none 0 0] 50))
  refine (HB0.out _ (HR.out.keep HA.out)).mono ?_
  rintro en w1 ⟨rfl, hr1, hb1⟩
  have HR := Lib.hid ((HR.out.keep HA.out).turn hr1 hb1 HH1.out)
  have HO := Lib.hid ((InAt.at_ w w.heap.size 0 0 0 0 (.slice none 0 0) 50 rfl).but hb1 HG.out)
  have HB := Lib.hid (((But.refl g w).allocHigh (.cells #[.int .i64 0, .int .i64 0, .int .i64 0, .int .u64 0, .slice none 0 0] 50)).trans hb1)
  clear hr1 hb1
  go_wp2_with fail
  have HA1 := Lib.hid ((Below.refl w1.heap.size w1).alloc (Nat.le_refl _) (.cells #[.int .i64 op, .int .i64 0, .int .i64 0, .int .u64 0, .slice none 0 0] 50))
  refine (HK.out _ (HR.out.keep HA1.out).below).mono ?_
  rintro en w2 ⟨rfl, hb2⟩
  have HC := Lib.hid (HA1.out.trans (hb2.mono HA1.out.size))
  have HI := Lib.hid ((InAt.at_ w1 w1.heap.size op 0 0 0 (.slice none 0 0) 50 rfl).keep hb2)
  have HHG : Hid (w1.heap.size ≠ g) := by have := HR.out.rd.lt; show _ ≠ _; omega
  have HW0 : Hid (w0.heap.size ≤ w1.heap.size) := HR.out.below.size
  have HWW : Hid (w.heap.size ≤ w1.heap.size) := HB.out.size
  have HHO : Hid (w1.heap.size ≠ w.heap.size) := by have := HO.out.lt; show _ ≠ _; omega
  have HR := Lib.hid (HR.out.keep HC.out)
  have HO := Lib.hid (HO.out.keep HC.out)
  have HB := Lib.hid (HB.out.trans (But.of_below HC.out))
  clear hb2
  obtain ⟨i0, ic0, ic1, ic2, ic3, ic4, if0, if1, if2, if3, if4⟩ := HI.out
  go_wp2_with fail
  refine (Hzero2.out _ HR.out).mono ?_
  rintro en w3 ⟨rfl, hr, hb⟩
  have HR := Lib.hid (HR.out.turn hr hb hl2)
  have HI := Lib.hid (HI.out.but hb HHG.out)
  have HO := Lib.hid (HO.out.but hb HG.out)
  have HB := Lib.hid (HB.out.trans hb)
  clear hr hb
  clear i0 ic0 ic1 ic2 ic3 ic4 if0 if1 if2 if3 if4
  obtain ⟨i0, ic0, ic1, ic2, ic3, ic4, if0, if1, if2, if3, if4⟩ := HI.out
  obtain ⟨o0, oc0, oc1, oc2, oc3, oc4, of0, of1, of2, of3, of4⟩ := HO.out
  go_wp2_with fail
  refine bodyPost_ret (v := .agg #[.int .i64 op, .int .i64 (0), .int .i64 (0), .int .u64 (0), .slice none 0 0]) (by simp [results, Tryd.results48, go_sem, oc0, oc1, oc2, oc3, oc4]) rfl ⟨_, rfl, ownI_nil _ _, ?_, ?_⟩
  · exact (((((HR.out.rd.far (p := ⟨w.heap.size, 0, none⟩) HG.out _).far (p := ⟨w.heap.size, 1, none⟩) HG.out _).far (p := ⟨w.heap.size, 2, none⟩) HG.out _).far (p := ⟨w.heap.size, 3, none⟩) HG.out _).far (p := ⟨w.heap.size, 4, none⟩) HG.out _)
  · exact (((((HB.out.setHigh (p := ⟨w.heap.size, 0, none⟩) (Nat.le_refl _) _).setHigh (p := ⟨w.heap.size, 1, none⟩) (Nat.le_refl _) _).setHigh (p := ⟨w.heap.size, 2, none⟩) (Nat.le_refl _) _).setHigh (p := ⟨w.heap.size, 3, none⟩) (Nat.le_refl _) _).setHigh (p := ⟨w.heap.size, 4, none⟩) (Nat.le_refl _) _)
theorem pin_c32 {w0 w : World} {v : Value} {l : List Int} {g a : Nat} {e : Int} (hr : Rd w0 v l g w a e) (op e1 : Int) (a1 : Nat) (x k : Int) (a2 : Nat) (e2 : Int)
    (h1 : a1 ≤ l.length)
    (hop : IntKind.i64.wrap op = op)
    (hB : ∀ W, Rd w0 v l g W a e → Calls Tryd.prog 64 #[.pointer (some ⟨g, 0, none⟩)] W (Turn v g (.int .u8 op) a1 e1 W))
    (hK : ∀ W, Below w0.heap.size w0 W → Calls Tryd.prog 50 #[.int .i64 op] W fun en w' => en = .returned (.int .i64 8) ∧ Below W.heap.size W w')
    (hsigned2 : ∀ W, Rd w0 v l g W a1 e1 → Calls Tryd.prog 71 #[.pointer (some ⟨g, 0, none⟩), .int .i64 32] W (Turn v g (.int .i64 x) a2 e2 W))
    (hl2 : a2 ≤ l.length)
    (hV : ∀ W, Calls Tryd.prog 70 #[.int .u8 127, .int .i64 x] W fun en w' => en = .returned (.int .u64 k) ∧ W = w')
    : Calls Tryd.prog 48 #[.pointer (some ⟨g, 0, none⟩)] w (InTold v g op (0) (0) (k) [] a2 e2 w) := by
  have HR := Lib.hid hr
  have HG : Hid (w.heap.size ≠ g) := by have := hr.rd.lt; show _ ≠ _; omega
  have HH1 := Lib.hid h1
  have HB0 := Lib.hid hB
  have HK := Lib.hid hK
  have Hsigned2 := Lib.hid hsigned2
  have HV := Lib.hid hV
  clear hr h1 hB hK hsigned2 hV
  go_enter Tryd.func48, Tryd.ntmps48
  go_wp2_with fail
  have HA := Lib.hid ((Below.refl w.heap.size w).alloc (Nat.le_refl _) (.cells #[.int .i64 0, .int .i64 0, .int .i64 0, .int .u64 0, .slice none 0 0] 50))
  refine (HB0.out _ (HR.out.keep HA.out)).mono ?_
  rintro en w1 ⟨rfl, hr1, hb1⟩
  have HR := Lib.hid ((HR.out.keep HA.out).turn hr1 hb1 HH1.out)
  have HO := Lib.hid ((InAt.at_ w w.heap.size 0 0 0 0 (.slice none 0 0) 50 rfl).but hb1 HG.out)
  have HB := Lib.hid (((But.refl g w).allocHigh (.cells #[.int .i64 0, .int .i64 0, .int .i64 0, .int .u64 0, .slice none 0 0] 50)).trans hb1)
  clear hr1 hb1
  go_wp2_with fail
  have HA1 := Lib.hid ((Below.refl w1.heap.size w1).alloc (Nat.le_refl _) (.cells #[.int .i64 op, .int .i64 0, .int .i64 0, .int .u64 0, .slice none 0 0] 50))
  refine (HK.out _ (HR.out.keep HA1.out).below).mono ?_
  rintro en w2 ⟨rfl, hb2⟩
  have HC := Lib.hid (HA1.out.trans (hb2.mono HA1.out.size))
  have HI := Lib.hid ((InAt.at_ w1 w1.heap.size op 0 0 0 (.slice none 0 0) 50 rfl).keep hb2)
  have HHG : Hid (w1.heap.size ≠ g) := by have := HR.out.rd.lt; show _ ≠ _; omega
  have HW0 : Hid (w0.heap.size ≤ w1.heap.size) := HR.out.below.size
  have HWW : Hid (w.heap.size ≤ w1.heap.size) := HB.out.size
  have HHO : Hid (w1.heap.size ≠ w.heap.size) := by have := HO.out.lt; show _ ≠ _; omega
  have HR := Lib.hid (HR.out.keep HC.out)
  have HO := Lib.hid (HO.out.keep HC.out)
  have HB := Lib.hid (HB.out.trans (But.of_below HC.out))
  clear hb2
  obtain ⟨i0, ic0, ic1, ic2, ic3, ic4, if0, if1, if2, if3, if4⟩ := HI.out
  go_wp2_with fail
  refine (Hsigned2.out _ HR.out).mono ?_
  rintro en w3 ⟨rfl, hr, hb⟩
  have HR := Lib.hid (HR.out.turn hr hb hl2)
  have HI := Lib.hid (HI.out.but hb HHG.out)
  have HO := Lib.hid (HO.out.but hb HG.out)
  have HB := Lib.hid (HB.out.trans hb)
  clear hr hb
  clear i0 ic0 ic1 ic2 ic3 ic4 if0 if1 if2 if3 if4
  obtain ⟨i0, ic0, ic1, ic2, ic3, ic4, if0, if1, if2, if3, if4⟩ := HI.out
  go_wp2_with fail
  refine (HV.out _).mono ?_
  rintro en wv ⟨rfl, rfl⟩
  clear i0 ic0 ic1 ic2 ic3 ic4 if0 if1 if2 if3 if4
  obtain ⟨i0, ic0, ic1, ic2, ic3, ic4, if0, if1, if2, if3, if4⟩ := HI.out
  obtain ⟨o0, oc0, oc1, oc2, oc3, oc4, of0, of1, of2, of3, of4⟩ := HO.out
  have hn1 : w1.heap.size ≠ w.heap.size := HHO.out
  have hn2 : w.heap.size ≠ w1.heap.size := fun e => HHO.out e.symm
  go_wp2_with fail
  have HR := Lib.hid (HR.out.far (p := ⟨w1.heap.size, 3, none⟩) HHG.out HW0.out (.int .u64 (k)))
  have HI := Lib.hid (HI.out.setK (k))
  have HO := Lib.hid (HO.out.far (p := ⟨w1.heap.size, 3, none⟩) HHO.out (.int .u64 (k)))
  have HB := Lib.hid (HB.out.setHigh (p := ⟨w1.heap.size, 3, none⟩) HWW.out (.int .u64 (k)))
  refine bodyPost_ret (v := .agg #[.int .i64 op, .int .i64 (0), .int .i64 (0), .int .u64 (k), .slice none 0 0]) (by simp [results, Tryd.results48, go_sem, oc0, oc1, oc2, oc3, oc4]) rfl ⟨_, rfl, ownI_nil _ _, ?_, ?_⟩
  · exact (((((HR.out.rd.far (p := ⟨w.heap.size, 0, none⟩) HG.out _).far (p := ⟨w.heap.size, 1, none⟩) HG.out _).far (p := ⟨w.heap.size, 2, none⟩) HG.out _).far (p := ⟨w.heap.size, 3, none⟩) HG.out _).far (p := ⟨w.heap.size, 4, none⟩) HG.out _)
  · exact (((((HB.out.setHigh (p := ⟨w.heap.size, 0, none⟩) (Nat.le_refl _) _).setHigh (p := ⟨w.heap.size, 1, none⟩) (Nat.le_refl _) _).setHigh (p := ⟨w.heap.size, 2, none⟩) (Nat.le_refl _) _).setHigh (p := ⟨w.heap.size, 3, none⟩) (Nat.le_refl _) _).setHigh (p := ⟨w.heap.size, 4, none⟩) (Nat.le_refl _) _)
theorem pin_c64 {w0 w : World} {v : Value} {l : List Int} {g a : Nat} {e : Int} (hr : Rd w0 v l g w a e) (op e1 : Int) (a1 : Nat) (x k : Int) (a2 : Nat) (e2 : Int)
    (h1 : a1 ≤ l.length)
    (hop : IntKind.i64.wrap op = op)
    (hB : ∀ W, Rd w0 v l g W a e → Calls Tryd.prog 64 #[.pointer (some ⟨g, 0, none⟩)] W (Turn v g (.int .u8 op) a1 e1 W))
    (hK : ∀ W, Below w0.heap.size w0 W → Calls Tryd.prog 50 #[.int .i64 op] W fun en w' => en = .returned (.int .i64 9) ∧ Below W.heap.size W w')
    (hsigned2 : ∀ W, Rd w0 v l g W a1 e1 → Calls Tryd.prog 71 #[.pointer (some ⟨g, 0, none⟩), .int .i64 64] W (Turn v g (.int .i64 x) a2 e2 W))
    (hl2 : a2 ≤ l.length)
    (hV : ∀ W, Calls Tryd.prog 70 #[.int .u8 126, .int .i64 x] W fun en w' => en = .returned (.int .u64 k) ∧ W = w')
    : Calls Tryd.prog 48 #[.pointer (some ⟨g, 0, none⟩)] w (InTold v g op (0) (0) (k) [] a2 e2 w) := by
  have HR := Lib.hid hr
  have HG : Hid (w.heap.size ≠ g) := by have := hr.rd.lt; show _ ≠ _; omega
  have HH1 := Lib.hid h1
  have HB0 := Lib.hid hB
  have HK := Lib.hid hK
  have Hsigned2 := Lib.hid hsigned2
  have HV := Lib.hid hV
  clear hr h1 hB hK hsigned2 hV
  go_enter Tryd.func48, Tryd.ntmps48
  go_wp2_with fail
  have HA := Lib.hid ((Below.refl w.heap.size w).alloc (Nat.le_refl _) (.cells #[.int .i64 0, .int .i64 0, .int .i64 0, .int .u64 0, .slice none 0 0] 50))
  refine (HB0.out _ (HR.out.keep HA.out)).mono ?_
  rintro en w1 ⟨rfl, hr1, hb1⟩
  have HR := Lib.hid ((HR.out.keep HA.out).turn hr1 hb1 HH1.out)
  have HO := Lib.hid ((InAt.at_ w w.heap.size 0 0 0 0 (.slice none 0 0) 50 rfl).but hb1 HG.out)
  have HB := Lib.hid (((But.refl g w).allocHigh (.cells #[.int .i64 0, .int .i64 0, .int .i64 0, .int .u64 0, .slice none 0 0] 50)).trans hb1)
  clear hr1 hb1
  go_wp2_with fail
  have HA1 := Lib.hid ((Below.refl w1.heap.size w1).alloc (Nat.le_refl _) (.cells #[.int .i64 op, .int .i64 0, .int .i64 0, .int .u64 0, .slice none 0 0] 50))
  refine (HK.out _ (HR.out.keep HA1.out).below).mono ?_
  rintro en w2 ⟨rfl, hb2⟩
  have HC := Lib.hid (HA1.out.trans (hb2.mono HA1.out.size))
  have HI := Lib.hid ((InAt.at_ w1 w1.heap.size op 0 0 0 (.slice none 0 0) 50 rfl).keep hb2)
  have HHG : Hid (w1.heap.size ≠ g) := by have := HR.out.rd.lt; show _ ≠ _; omega
  have HW0 : Hid (w0.heap.size ≤ w1.heap.size) := HR.out.below.size
  have HWW : Hid (w.heap.size ≤ w1.heap.size) := HB.out.size
  have HHO : Hid (w1.heap.size ≠ w.heap.size) := by have := HO.out.lt; show _ ≠ _; omega
  have HR := Lib.hid (HR.out.keep HC.out)
  have HO := Lib.hid (HO.out.keep HC.out)
  have HB := Lib.hid (HB.out.trans (But.of_below HC.out))
  clear hb2
  obtain ⟨i0, ic0, ic1, ic2, ic3, ic4, if0, if1, if2, if3, if4⟩ := HI.out
  go_wp2_with fail
  refine (Hsigned2.out _ HR.out).mono ?_
  rintro en w3 ⟨rfl, hr, hb⟩
  have HR := Lib.hid (HR.out.turn hr hb hl2)
  have HI := Lib.hid (HI.out.but hb HHG.out)
  have HO := Lib.hid (HO.out.but hb HG.out)
  have HB := Lib.hid (HB.out.trans hb)
  clear hr hb
  clear i0 ic0 ic1 ic2 ic3 ic4 if0 if1 if2 if3 if4
  obtain ⟨i0, ic0, ic1, ic2, ic3, ic4, if0, if1, if2, if3, if4⟩ := HI.out
  go_wp2_with fail
  refine (HV.out _).mono ?_
  rintro en wv ⟨rfl, rfl⟩
  clear i0 ic0 ic1 ic2 ic3 ic4 if0 if1 if2 if3 if4
  obtain ⟨i0, ic0, ic1, ic2, ic3, ic4, if0, if1, if2, if3, if4⟩ := HI.out
  obtain ⟨o0, oc0, oc1, oc2, oc3, oc4, of0, of1, of2, of3, of4⟩ := HO.out
  have hn1 : w1.heap.size ≠ w.heap.size := HHO.out
  have hn2 : w.heap.size ≠ w1.heap.size := fun e => HHO.out e.symm
  go_wp2_with fail
  have HR := Lib.hid (HR.out.far (p := ⟨w1.heap.size, 3, none⟩) HHG.out HW0.out (.int .u64 (k)))
  have HI := Lib.hid (HI.out.setK (k))
  have HO := Lib.hid (HO.out.far (p := ⟨w1.heap.size, 3, none⟩) HHO.out (.int .u64 (k)))
  have HB := Lib.hid (HB.out.setHigh (p := ⟨w1.heap.size, 3, none⟩) HWW.out (.int .u64 (k)))
  refine bodyPost_ret (v := .agg #[.int .i64 op, .int .i64 (0), .int .i64 (0), .int .u64 (k), .slice none 0 0]) (by simp [results, Tryd.results48, go_sem, oc0, oc1, oc2, oc3, oc4]) rfl ⟨_, rfl, ownI_nil _ _, ?_, ?_⟩
  · exact (((((HR.out.rd.far (p := ⟨w.heap.size, 0, none⟩) HG.out _).far (p := ⟨w.heap.size, 1, none⟩) HG.out _).far (p := ⟨w.heap.size, 2, none⟩) HG.out _).far (p := ⟨w.heap.size, 3, none⟩) HG.out _).far (p := ⟨w.heap.size, 4, none⟩) HG.out _)
  · exact (((((HB.out.setHigh (p := ⟨w.heap.size, 0, none⟩) (Nat.le_refl _) _).setHigh (p := ⟨w.heap.size, 1, none⟩) (Nat.le_refl _) _).setHigh (p := ⟨w.heap.size, 2, none⟩) (Nat.le_refl _) _).setHigh (p := ⟨w.heap.size, 3, none⟩) (Nat.le_refl _) _).setHigh (p := ⟨w.heap.size, 4, none⟩) (Nat.le_refl _) _)
end Go.Proofs.YtdmidagcdhhlhaaDoor.Ins

/- The program's reader: an instruction, of whatever kind; and Read: what the document tells. -/
namespace Go.Proofs.YtdmidagcdhhlhaaDoor.Ins
open Go.RowKit Ints Typ
set_option maxRecDepth 100000
set_option maxHeartbeats 1000000
set_option linter.unusedVariables false

/-- The program's next instruction; the place behind it; the error. -/
def pin (l : List Int) (a : Nat) (e : Int) : Ins × Nat × Int :=
  let p := rb l a e
  if kd p.1 = 0 then (⟨p.1, 0, 0, 0, []⟩, p.2.1, rf true p.2.2 3)
  else if kd p.1 = 1 then (⟨p.1, 0, 0, 0, []⟩, p.2.1, p.2.2)
  else if kd p.1 = 2 then
    let q := rb l p.2.1 p.2.2
    (⟨p.1, rz q.1, 0, 0, []⟩, q.2.1, rf (q.1 != 64 && (q.1 != 126 && q.1 != 127)) q.2.2 3)
  else if kd p.1 = 3 then
    let q := pu l p.2.1 p.2.2
    (⟨p.1, q.1, 0, 0, []⟩, q.2.1, q.2.2)
  else if kd p.1 = 4 then
    let r := pla l p.2.1 p.2.2
    let s := pu l r.2.1 r.2.2
    (⟨p.1, s.1, 0, 0, r.1⟩, s.2.1, s.2.2)
  else if kd p.1 = 5 then
    let q := pu l p.2.1 p.2.2
    let r := rb l q.2.1 q.2.2
    (⟨p.1, q.1, 0, 0, []⟩, r.2.1, rf (r.1 != 0) r.2.2 3)
  else if kd p.1 = 6 then
    let q := pu l p.2.1 p.2.2
    let r := pu l q.2.1 q.2.2
    (⟨p.1, q.1, r.1, 0, []⟩, r.2.1, r.2.2)
  else if kd p.1 = 7 then
    let r := rb l p.2.1 p.2.2
    (⟨p.1, 0, 0, 0, []⟩, r.2.1, rf (r.1 != 0) r.2.2 3)
  else if kd p.1 = 8 then
    let q := ps 32 l p.2.1 p.2.2
    (⟨p.1, 0, 0, vaT 127 q.1, []⟩, q.2.1, q.2.2)
  else
    let q := ps 64 l p.2.1 p.2.2
    (⟨p.1, 0, 0, vaT 126 q.1, []⟩, q.2.1, q.2.2)
theorem pinstr_any {w0 w : World} {v : Value} {l : List Int} {g a : Nat} {e : Int} (h : Rd w0 v l g w a e) (hT : KTab w0) : Calls Tryd.prog 48 #[.pointer (some ⟨g, 0, none⟩)] w (InsTold v g (pin l a e) w) := by
  have hp := rb_le (e := e) h.at_le
  have hB := fun W (H : Rd w0 v l g W a e) => pnext_any H
  have hr := kd_range (rb l a e).1
  have hop : IntKind.i64.wrap (rb l a e).1 = (rb l a e).1 := by have := rb_range h.by_ a e; exact IntWalk.i64_in _ (by omega)
  have hK : ∀ k : Int, kd (rb l a e).1 = k → ∀ W, Below w0.heap.size w0 W → Calls Tryd.prog 50 #[.int .i64 (rb l a e).1] W fun en w' => en = .returned (.int .i64 k) ∧ Below W.heap.size W w' := fun k hk W hW => by
    have := kind_told (rb l a e).1 W (hT.keep hW)
    unfold KdTold at this
    rwa [hk] at this
  have hk : kd (rb l a e).1 = 0 ∨ kd (rb l a e).1 = 1 ∨ kd (rb l a e).1 = 2 ∨ kd (rb l a e).1 = 3 ∨ kd (rb l a e).1 = 4 ∨ kd (rb l a e).1 = 5 ∨ kd (rb l a e).1 = 6 ∨ kd (rb l a e).1 = 7 ∨ kd (rb l a e).1 = 8 ∨ kd (rb l a e).1 = 9 := by omega
  rcases hk with hk | hk | hk | hk | hk | hk | hk | hk | hk | hk
  · rw [show pin l a e = (⟨(rb l a e).1, 0, 0, 0, []⟩, (rb l a e).2.1, rf true (rb l a e).2.2 3) from by simp [pin, hk]]
    exact pin_bad h _ _ _ _ hp hop hB (hK 0 hk) fun W H => pfail_any 3 H
  · rw [show pin l a e = (⟨(rb l a e).1, 0, 0, 0, []⟩, (rb l a e).2.1, (rb l a e).2.2) from by simp [pin, hk]]
    exact pin_plain h _ _ _ hp hop hB (hK 1 hk)
  · have hri : pin l a e = (let q := rb l (rb l a e).2.1 (rb l a e).2.2; (⟨(rb l a e).1, rz q.1, 0, 0, []⟩, q.2.1, rf (q.1 != 64 && (q.1 != 126 && q.1 != 127)) q.2.2 3)) := by simp [pin, hk]
    rw [hri]
    exact pin_block h _ _ _ _ _ _ hp hop hB (hK 2 hk) (fun W H => presult_any H) (rb_le hp)
  · have hri : pin l a e = (let q := pu l (rb l a e).2.1 (rb l a e).2.2; (⟨(rb l a e).1, q.1, 0, 0, []⟩, q.2.1, q.2.2)) := by simp [pin, hk]
    rw [hri]
    exact pin_index h _ _ _ _ _ _ hp hop hB (hK 3 hk) (fun W H => pu_any H) (pu_le hp)
  · have hri : pin l a e = (let r := pla l (rb l a e).2.1 (rb l a e).2.2; let s := pu l r.2.1 r.2.2; (⟨(rb l a e).1, s.1, 0, 0, r.1⟩, s.2.1, s.2.2)) := by simp [pin, hk]
    rw [hri]
    exact pin_table h _ _ _ _ _ _ _ _ _ hp hop hB (hK 4 hk) (fun W H => plabels_any H) (pla_le hp) (fun W H => pu_any H) (pu_le (pla_le hp))
  · have hri : pin l a e = (let q := pu l (rb l a e).2.1 (rb l a e).2.2; let r := rb l q.2.1 q.2.2; (⟨(rb l a e).1, q.1, 0, 0, []⟩, r.2.1, rf (r.1 != 0) r.2.2 3)) := by simp [pin, hk]
    rw [hri]
    exact pin_calli h _ _ _ _ _ _ _ _ hp hop hB (hK 5 hk) (fun W H => pu_any H) (pu_le hp) (fun W H => pzero_any H) (rb_le (pu_le hp))
  · have hri : pin l a e = (let q := pu l (rb l a e).2.1 (rb l a e).2.2; let r := pu l q.2.1 q.2.2; (⟨(rb l a e).1, q.1, r.1, 0, []⟩, r.2.1, r.2.2)) := by simp [pin, hk]
    rw [hri]
    exact pin_mem h _ _ _ _ _ _ _ _ _ hp hop hB (hK 6 hk) (fun W H => pu_any H) (pu_le hp) (fun W H => pu_any H) (pu_le (pu_le hp))
  · have hri : pin l a e = (let r := rb l (rb l a e).2.1 (rb l a e).2.2; (⟨(rb l a e).1, 0, 0, 0, []⟩, r.2.1, rf (r.1 != 0) r.2.2 3)) := by simp [pin, hk]
    rw [hri]
    exact pin_memop h _ _ _ _ _ hp hop hB (hK 7 hk) (fun W H => pzero_any H) (rb_le hp)
  · have hri : pin l a e = (let q := ps 32 l (rb l a e).2.1 (rb l a e).2.2; (⟨(rb l a e).1, 0, 0, vaT 127 q.1, []⟩, q.2.1, q.2.2)) := by simp [pin, hk]
    rw [hri]
    exact pin_c32 h _ _ _ _ _ _ _ hp hop hB (hK 8 hk) (fun W H => ps_any 32 (.inl rfl) H) (ps_le hp) fun W => value_any 127 _ W
  · have hri : pin l a e = (let q := ps 64 l (rb l a e).2.1 (rb l a e).2.2; (⟨(rb l a e).1, 0, 0, vaT 126 q.1, []⟩, q.2.1, q.2.2)) := by simp [pin, hk]
    rw [hri]
    exact pin_c64 h _ _ _ _ _ _ _ hp hop hB (hK 9 hk) (fun W H => ps_any 64 (.inr rfl) H) (ps_le hp) fun W => value_any 126 _ W
/-! The program's way tells the document's: the same error, and, if there is none, the same. -/
theorem pu_ru (l : List Int) (a : Nat) (e : Int) : (pu l a e).1 = (ru l a e).1 ∧ (pu l a e).2.2 = (ru l a e).2.2 ∧ ((ru l a e).2.2 = 0 → pu l a e = ru l a e) ∧ ((ru l a e).2.2 ≠ 0 → (ru l a e).1 = 0) := by
  unfold pu ru
  split
  · exact ⟨rfl, rfl, fun _ => rfl, fun _ => rfl⟩
  · cases Leb.rdl Leb.fitU 32 (l.drop a) 0 0 with
    | ok n m => exact ⟨rfl, rfl, fun _ => rfl, fun h => absurd rfl h⟩
    | short => exact ⟨rfl, rfl, fun h => by simp at h, fun _ => rfl⟩
    | form => exact ⟨rfl, rfl, fun h => by simp at h, fun _ => rfl⟩
theorem ps_rs (bits : Nat) (l : List Int) (a : Nat) (e : Int) : (ps bits l a e).1 = (rs bits l a e).1 ∧ (ps bits l a e).2.2 = (rs bits l a e).2.2 ∧ ((rs bits l a e).2.2 = 0 → ps bits l a e = rs bits l a e) := by
  unfold ps rs
  split
  · exact ⟨rfl, rfl, fun _ => rfl⟩
  · cases Leb.rdl Leb.fitS bits (l.drop a) 0 0 with
    | ok n m => exact ⟨rfl, rfl, fun _ => rfl⟩
    | short => exact ⟨rfl, rfl, fun h => by simp at h⟩
    | form => exact ⟨rfl, rfl, fun h => by simp at h⟩
theorem pu_e {l : List Int} {a : Nat} {e : Int} (h : e ≠ 0) : pu l a e = (0, a, e) := if_pos h
theorem ru_e {l : List Int} {a : Nat} {e : Int} (h : e ≠ 0) : ru l a e = (0, a, e) := if_pos h
theorem plb_e {l : List Int} : ∀ (n : Nat) (L : List Int) (a : Nat) (e : Int), e ≠ 0 → (plb l n L a e).2.2 = e
  | 0, _, _, _, _ => rfl
  | n + 1, L, a, e, h => by
    show (plb l n (L ++ [(pu l a e).1]) (pu l a e).2.1 (pu l a e).2.2).2.2 = e
    rw [pu_e h]
    exact plb_e n _ _ _ h
theorem plb_lb {l : List Int} : ∀ (n : Nat) (L : List Int) (a : Nat), (plb l n L a 0).2.2 = (lb l n L a 0).2.2 ∧ ((lb l n L a 0).2.2 = 0 → plb l n L a 0 = lb l n L a 0)
  | 0, _, _ => ⟨rfl, fun _ => rfl⟩
  | n + 1, L, a => by
    have e1 : plb l (n + 1) L a 0 = plb l n (L ++ [(pu l a 0).1]) (pu l a 0).2.1 (pu l a 0).2.2 := rfl
    have e2 : lb l (n + 1) L a 0 = lb l n (L ++ [(ru l a 0).1]) (ru l a 0).2.1 (ru l a 0).2.2 := if_pos rfl
    rw [e1, e2]
    obtain ⟨h1, h2, h3, _⟩ := pu_ru l a 0
    by_cases h : (ru l a 0).2.2 = 0
    · rw [h3 h, h]
      exact plb_lb n _ _
    · rw [lb_err h, plb_e n _ _ _ (by rw [h2]; exact h), h2]
      exact ⟨rfl, fun h0 => absurd h0 h⟩
theorem pla_lb (l : List Int) (a : Nat) (e : Int) : (pla l a e).2.2 = (lb l (ru l a e).1.toNat [] (ru l a e).2.1 (rf (decide (64 < (ru l a e).1)) (ru l a e).2.2 4)).2.2 ∧
    ((pla l a e).2.2 = 0 → pla l a e = lb l (ru l a e).1.toNat [] (ru l a e).2.1 (rf (decide (64 < (ru l a e).1)) (ru l a e).2.2 4)) := by
  obtain ⟨h1, h2, h3, h4⟩ := pu_ru l a e
  unfold pla
  by_cases h : (ru l a e).2.2 = 0
  · rw [h3 h, h]
    by_cases h64 : 64 < (ru l a e).1
    · rw [if_pos h64, decide_eq_true h64, show rf true 0 4 = 4 from rfl, lb_err (by decide)]
      exact ⟨rfl, fun _ => rfl⟩
    · rw [if_neg h64, decide_eq_false h64, show rf false 0 4 = 0 from rfl]
      have := plb_lb (l := l) (ru l a e).1.toNat [] (ru l a e).2.1
      exact ⟨this.1, fun hz => this.2 (this.1 ▸ hz)⟩
  · have hz := h4 h
    rw [h1, hz, if_neg (by omega), decide_eq_false (by omega), h2, show rf false (ru l a e).2.2 4 = (ru l a e).2.2 from rfl, lb_err h]
    have : (plb l (Int.toNat 0) [] (pu l a e).2.1 (ru l a e).2.2).2.2 = (ru l a e).2.2 := rfl
    exact ⟨this, fun h0 => absurd (this ▸ h0) h⟩
theorem rf_true_e {e x : Int} (h : e ≠ 0) (b : Bool) : rf b e x = e := by
  unfold rf
  cases b <;> simp [h]
theorem pin_ri (l : List Int) (a : Nat) (e : Int) : (pin l a e).2.2 = (ri l a e).2.2 ∧ ((ri l a e).2.2 = 0 → pin l a e = ri l a e) := by
  generalize hp : rb l a e = p
  have key : ∀ k : Int, kd p.1 = k → kd (rb l a e).1 = k := fun k hk => by rw [hp]; exact hk
  have hr := kd_range p.1
  have hk : kd p.1 = 0 ∨ kd p.1 = 1 ∨ kd p.1 = 2 ∨ kd p.1 = 3 ∨ kd p.1 = 4 ∨ kd p.1 = 5 ∨ kd p.1 = 6 ∨ kd p.1 = 7 ∨ kd p.1 = 8 ∨ kd p.1 = 9 := by omega
  rcases hk with hk | hk | hk | hk | hk | hk | hk | hk | hk | hk
  · have e1 : pin l a e = ri l a e := by simp [pin, ri, hp, hk]
    rw [e1]; exact ⟨rfl, fun _ => rfl⟩
  · have e1 : pin l a e = ri l a e := by simp [pin, ri, hp, hk]
    rw [e1]; exact ⟨rfl, fun _ => rfl⟩
  · have e1 : pin l a e = ri l a e := by simp [pin, ri, hp, hk, rz]
    rw [e1]; exact ⟨rfl, fun _ => rfl⟩
  · have e1 : pin l a e = (⟨p.1, (pu l p.2.1 p.2.2).1, 0, 0, []⟩, (pu l p.2.1 p.2.2).2.1, (pu l p.2.1 p.2.2).2.2) := by simp [pin, hp, hk]
    have e2 : ri l a e = (⟨p.1, (ru l p.2.1 p.2.2).1, 0, 0, []⟩, (ru l p.2.1 p.2.2).2.1, (ru l p.2.1 p.2.2).2.2) := by simp [ri, hp, hk]
    obtain ⟨h1, h2, h3, h4⟩ := pu_ru l p.2.1 p.2.2
    rw [e1, e2]
    exact ⟨h2, fun h => by rw [h3 h]⟩
  · have e1 : pin l a e = (⟨p.1, (pu l (pla l p.2.1 p.2.2).2.1 (pla l p.2.1 p.2.2).2.2).1, 0, 0, (pla l p.2.1 p.2.2).1⟩, (pu l (pla l p.2.1 p.2.2).2.1 (pla l p.2.1 p.2.2).2.2).2.1, (pu l (pla l p.2.1 p.2.2).2.1 (pla l p.2.1 p.2.2).2.2).2.2) := by simp [pin, hp, hk]
    have e2 : ri l a e = (let q := ru l p.2.1 p.2.2; let r := lb l q.1.toNat [] q.2.1 (rf (decide (64 < q.1)) q.2.2 4); let s := ru l r.2.1 r.2.2; (⟨p.1, s.1, 0, 0, r.1⟩, s.2.1, s.2.2)) := by simp [ri, hp, hk]
    obtain ⟨h1, h2⟩ := pla_lb l p.2.1 p.2.2
    rw [e1, e2]
    simp only
    by_cases h : (pla l p.2.1 p.2.2).2.2 = 0
    · rw [← h2 h]
      obtain ⟨k1, k2, k3, k4⟩ := pu_ru l (pla l p.2.1 p.2.2).2.1 (pla l p.2.1 p.2.2).2.2
      exact ⟨k2, fun hz => by rw [k3 hz]⟩
    · rw [pu_e h, ru_e (by rw [← h1]; exact h)]
      exact ⟨h1, fun hz => absurd (h1.trans hz) h⟩
  · have e1 : pin l a e = (let q := pu l p.2.1 p.2.2; let r := rb l q.2.1 q.2.2; (⟨p.1, q.1, 0, 0, []⟩, r.2.1, rf (r.1 != 0) r.2.2 3)) := by simp [pin, hp, hk]
    have e2 : ri l a e = (let q := ru l p.2.1 p.2.2; let r := rb l q.2.1 q.2.2; (⟨p.1, q.1, 0, 0, []⟩, r.2.1, rf (r.1 != 0) r.2.2 3)) := by simp [ri, hp, hk]
    obtain ⟨h1, h2, h3, h4⟩ := pu_ru l p.2.1 p.2.2
    rw [e1, e2]
    simp only
    by_cases h : (ru l p.2.1 p.2.2).2.2 = 0
    · rw [h3 h]
      exact ⟨rfl, fun _ => rfl⟩
    · rw [h2, rb_err h, rb_err h]
      exact ⟨rfl, fun hz => absurd ((rf_true_e h _).symm.trans hz) h⟩
  · have e1 : pin l a e = (let q := pu l p.2.1 p.2.2; let r := pu l q.2.1 q.2.2; (⟨p.1, q.1, r.1, 0, []⟩, r.2.1, r.2.2)) := by simp [pin, hp, hk]
    have e2 : ri l a e = (let q := ru l p.2.1 p.2.2; let r := ru l q.2.1 q.2.2; (⟨p.1, q.1, r.1, 0, []⟩, r.2.1, r.2.2)) := by simp [ri, hp, hk]
    obtain ⟨h1, h2, h3, h4⟩ := pu_ru l p.2.1 p.2.2
    rw [e1, e2]
    simp only
    by_cases h : (ru l p.2.1 p.2.2).2.2 = 0
    · rw [h3 h]
      obtain ⟨k1, k2, k3, k4⟩ := pu_ru l (ru l p.2.1 p.2.2).2.1 (ru l p.2.1 p.2.2).2.2
      exact ⟨k2, fun hz => by rw [k3 hz]⟩
    · rw [h2, pu_e h, ru_e h]
      exact ⟨rfl, fun hz => absurd hz h⟩
  · have e1 : pin l a e = ri l a e := by simp [pin, ri, hp, hk]
    rw [e1]; exact ⟨rfl, fun _ => rfl⟩
  · have e1 : pin l a e = (⟨p.1, 0, 0, vaT 127 (ps 32 l p.2.1 p.2.2).1, []⟩, (ps 32 l p.2.1 p.2.2).2.1, (ps 32 l p.2.1 p.2.2).2.2) := by simp [pin, hp, hk]
    have e2 : ri l a e = (⟨p.1, 0, 0, vaT 127 (rs 32 l p.2.1 p.2.2).1, []⟩, (rs 32 l p.2.1 p.2.2).2.1, (rs 32 l p.2.1 p.2.2).2.2) := by simp [ri, hp, hk]
    obtain ⟨h1, h2, h3⟩ := ps_rs 32 l p.2.1 p.2.2
    rw [e1, e2]
    exact ⟨h2, fun h => by rw [h3 h]⟩
  · have e1 : pin l a e = (⟨p.1, 0, 0, vaT 126 (ps 64 l p.2.1 p.2.2).1, []⟩, (ps 64 l p.2.1 p.2.2).2.1, (ps 64 l p.2.1 p.2.2).2.2) := by simp [pin, hp, hk]
    have e2 : ri l a e = (⟨p.1, 0, 0, IntKind.u64.wrap (rs 64 l p.2.1 p.2.2).1, []⟩, (rs 64 l p.2.1 p.2.2).2.1, (rs 64 l p.2.1 p.2.2).2.2) := by simp [ri, hp, hk]
    obtain ⟨h1, h2, h3⟩ := ps_rs 64 l p.2.1 p.2.2
    have h4 : ∀ x : Int, vaT 126 x = IntKind.u64.wrap x := fun x => by rw [IntKind.wrap_u64]; rfl
    rw [e1, e2, h4]
    exact ⟨h2, fun h => by rw [h3 h]⟩
theorem pread_low (A : Option Addr) (n c : Nat) (at_ : Int) (w : World) (h1 : decide (at_ < 0) = true) : Calls Tryd.prog 31 #[.slice A n c, .int .i64 at_] w fun en w' => en = .returned (.tuple #[NoIns, .int .i64 0, .int .i64 1]) ∧ Below w.heap.size w w' := by
  go_enter Tryd.func31, Tryd.ntmps31
  go_wp2_with fail
  refine bodyPost_ret (v := .tuple #[NoIns, .int .i64 0, .int .i64 1]) (by simp [results, Tryd.results31, go_sem, NoIns]) rfl ⟨rfl, ?_⟩
  exact (Below.refl _ _).alloc (Nat.le_refl _) _
theorem pread_high (A : Option Addr) (n c : Nat) (at_ : Int) (w : World) (h1 : decide (at_ < 0) = false) (h2 : decide ((n : Int) < at_) = true) : Calls Tryd.prog 31 #[.slice A n c, .int .i64 at_] w fun en w' => en = .returned (.tuple #[NoIns, .int .i64 0, .int .i64 1]) ∧ Below w.heap.size w w' := by
  go_enter Tryd.func31, Tryd.ntmps31
  go_wp2_with fail
  refine bodyPost_ret (v := .tuple #[NoIns, .int .i64 0, .int .i64 1]) (by simp [results, Tryd.results31, go_sem, NoIns]) rfl ⟨rfl, ?_⟩
  exact (Below.refl _ _).alloc (Nat.le_refl _) _
theorem pread_core (A : Option Addr) (c a n : Nat) (l : List Int) (w : World) (op X B K e : Int) (L : List Int) (h1 : decide ((a : Int) < 0) = false) (h3 : decide (l.length < a) = false) (g : Nat) (hg : g = w.heap.size + 1)
    (hR : ∀ W, Below w.heap.size w W → RdAt W g (.slice A l.length c) (a : Int) 0 → Calls Tryd.prog 48 #[.pointer (some ⟨g, 0, none⟩)] W (InTold (.slice A l.length c) g op X B K L n e W)) (d : Ins × Int × Int)
    (hd : (e = 0 ∧ d = (⟨op, X, B, K, L⟩, (n : Int), 0)) ∨ (e ≠ 0 ∧ d = (⟨0, 0, 0, 0, []⟩, 0, e))) :
    Calls Tryd.prog 31 #[.slice A l.length c, .int .i64 (a : Int)] w (RiTold d w) := by
  subst hg
  have HH := Lib.hid hR
  clear hR
  go_enter Tryd.func31, Tryd.ntmps31
  go_wp2_with fail
  have HB1 := Lib.hid (((Below.refl w.heap.size w).alloc (Nat.le_refl _) (.cells #[.int .i64 0, .int .i64 0, .int .i64 0, .int .u64 0, .slice none 0 0] 50)).alloc (by simp) (.cells #[.slice A l.length c, .int .i64 (a : Int), .int .i64 0] 78))
  refine (HH.out _ HB1.out (RdAt.at_ _ _ _ _ _ _ (by simp))).mono ?_
  rintro en w2 ⟨o, rfl, hown, hrd, hbut⟩
  obtain ⟨P, cc, rfl⟩ := hown.form
  have HO := Lib.hid (((InAt.at_ w w.heap.size 0 0 0 0 (.slice none 0 0) 50 rfl).keep ((Below.refl _ _).alloc (Nat.le_refl _) (.cells #[.slice A l.length c, .int .i64 (a : Int), .int .i64 0] 78))).but hbut (by omega))
  have HB := Lib.hid (HB1.out.trans (hbut.below (by omega) (by simp)))
  have HR := Lib.hid hrd
  have HW := Lib.hid (hown.mono (B' := w.heap.size + 1) (by simp))
  obtain ⟨r0, rc0, rc1, rc2, rf0, rf1, rf2⟩ := hrd
  clear hown hbut
  rcases hd with ⟨rfl, rfl⟩ | ⟨he, rfl⟩
  · go_wp2_with fail
    have HI3 := InAt.at_ w2 w2.heap.size op X B K (.slice P L.length cc) 50 rfl
    have HR3 := HR.out.keep ((Below.refl _ _).alloc (Nat.le_refl _) (.cells #[.int .i64 op, .int .i64 X, .int .i64 B, .int .u64 K, .slice P L.length cc] 50))
    have HO3 := HO.out.keep ((Below.refl _ _).alloc (Nat.le_refl _) (.cells #[.int .i64 op, .int .i64 X, .int .i64 B, .int .u64 K, .slice P L.length cc] 50))
    have HW3 := HW.out.keep ((Below.refl _ _).alloc (Nat.le_refl _) (.cells #[.int .i64 op, .int .i64 X, .int .i64 B, .int .u64 K, .slice P L.length cc] 50))
    have HB3 := HB.out.alloc (Nat.le_of_lt HO.out.lt) (.cells #[.int .i64 op, .int .i64 X, .int .i64 B, .int .u64 K, .slice P L.length cc] 50)
    have hq1 : w2.heap.size ≠ w.heap.size := Nat.ne_of_gt HO.out.lt
    have hq2 : w2.heap.size ≠ w.heap.size + 1 := Nat.ne_of_gt r0
    clear rc0 rc1 rc2 rf0 rf1 rf2 r0 HR HO HW HB HB1
    generalize w2.alloc (.cells #[.int .i64 op, .int .i64 X, .int .i64 B, .int .u64 K, .slice P L.length cc] 50) = w3 at *
    generalize w2.heap.size = q at *
    have hq3 := Ne.symm hq1
    have hq4 := Ne.symm hq2
    have HB4 := Lib.hid HB3
    have HW4 := Lib.hid HW3
    obtain ⟨r0, rc0, rc1, rc2, rf0, rf1, rf2⟩ := HR3
    obtain ⟨o0, oc0, oc1, oc2, oc3, oc4, of0, of1, of2, of3, of4⟩ := HO3
    obtain ⟨i0, ic0, ic1, ic2, ic3, ic4, if0, if1, if2, if3, if4⟩ := HI3
    clear HB3 HW3
    go_region
    all_goals go_wp2_with fail
    all_goals (
      have hb := (((((HB4.out.setCell (p := ⟨w.heap.size, 0, none⟩) (Nat.le_refl _) (.int .i64 op)).setCell (p := ⟨w.heap.size, 1, none⟩) (Nat.le_refl _) (.int .i64 X)).setCell (p := ⟨w.heap.size, 2, none⟩) (Nat.le_refl _) (.int .i64 B)).setCell (p := ⟨w.heap.size, 3, none⟩) (Nat.le_refl _) (.int .u64 K)).setCell (p := ⟨w.heap.size, 4, none⟩) (Nat.le_refl _) (.slice P L.length cc))
      refine bodyPost_ret (v := .tuple #[.agg #[.int .i64 op, .int .i64 X, .int .i64 B, .int .u64 K, .slice P L.length cc], .int .i64 (n : Int), .int .i64 0]) (by simp [results, Tryd.results31, go_sem, oc0, oc1, oc2, oc3, oc4]) rfl ⟨_, rfl, (((((((HW4.out.far (p := ⟨w.heap.size, 0, none⟩) (Nat.lt_succ_self _) _).far (p := ⟨w.heap.size, 1, none⟩) (Nat.lt_succ_self _) _).far (p := ⟨w.heap.size, 2, none⟩) (Nat.lt_succ_self _) _).far (p := ⟨w.heap.size, 3, none⟩) (Nat.lt_succ_self _) _).far (p := ⟨w.heap.size, 4, none⟩) (Nat.lt_succ_self _) _).keep (drewB _)).mono (Nat.le_succ _)), hb.trans ((drewB _).mono hb.size)⟩)
  · have t1 : (e != 0) = true := by simpa using he
    go_wp2_with fail
    have HI3 := InAt.at_ w2 w2.heap.size op X B K (.slice P L.length cc) 50 rfl
    have HR3 := HR.out.keep ((Below.refl _ _).alloc (Nat.le_refl _) (.cells #[.int .i64 op, .int .i64 X, .int .i64 B, .int .u64 K, .slice P L.length cc] 50))
    have HO3 := HO.out.keep ((Below.refl _ _).alloc (Nat.le_refl _) (.cells #[.int .i64 op, .int .i64 X, .int .i64 B, .int .u64 K, .slice P L.length cc] 50))
    have HW3 := HW.out.keep ((Below.refl _ _).alloc (Nat.le_refl _) (.cells #[.int .i64 op, .int .i64 X, .int .i64 B, .int .u64 K, .slice P L.length cc] 50))
    have HB3 := HB.out.alloc (Nat.le_of_lt HO.out.lt) (.cells #[.int .i64 op, .int .i64 X, .int .i64 B, .int .u64 K, .slice P L.length cc] 50)
    have hq1 : w2.heap.size ≠ w.heap.size := Nat.ne_of_gt HO.out.lt
    have hq2 : w2.heap.size ≠ w.heap.size + 1 := Nat.ne_of_gt r0
    clear rc0 rc1 rc2 rf0 rf1 rf2 r0 HR HO HW HB HB1
    generalize w2.alloc (.cells #[.int .i64 op, .int .i64 X, .int .i64 B, .int .u64 K, .slice P L.length cc] 50) = w3 at *
    generalize w2.heap.size = q at *
    have hq3 := Ne.symm hq1
    have hq4 := Ne.symm hq2
    have HB4 := Lib.hid HB3
    have HW4 := Lib.hid HW3
    obtain ⟨r0, rc0, rc1, rc2, rf0, rf1, rf2⟩ := HR3
    obtain ⟨o0, oc0, oc1, oc2, oc3, oc4, of0, of1, of2, of3, of4⟩ := HO3
    obtain ⟨i0, ic0, ic1, ic2, ic3, ic4, if0, if1, if2, if3, if4⟩ := HI3
    clear HB3 HW3
    go_region
    all_goals go_wp2_with fail
    all_goals (
      have hb := (((((HB4.out.setCell (p := ⟨w.heap.size, 0, none⟩) (Nat.le_refl _) (.int .i64 0)).setCell (p := ⟨w.heap.size, 1, none⟩) (Nat.le_refl _) (.int .i64 0)).setCell (p := ⟨w.heap.size, 2, none⟩) (Nat.le_refl _) (.int .i64 0)).setCell (p := ⟨w.heap.size, 3, none⟩) (Nat.le_refl _) (.int .u64 0)).setCell (p := ⟨w.heap.size, 4, none⟩) (Nat.le_refl _) (.slice none 0 0))
      refine bodyPost_ret (v := .tuple #[NoIns, .int .i64 0, .int .i64 e]) (by simp [NoIns, results, Tryd.results31, go_sem, oc0, oc1, oc2, oc3, oc4]) rfl ⟨_, rfl, ownI_nil _ _, hb.trans ((drewB _).mono hb.size)⟩)
theorem pread_any {v : Value} {l : List Int} {w : World} (at_ : Int) (hs : Sl w v l) (hb : ∀ x ∈ l, 0 ≤ x ∧ x < 256) (hl : l.length ≤ 1000000) (hT : KTab w) : Calls Tryd.prog 31 #[v, .int .i64 at_] w (RiTold (rdo l at_) w) := by
  obtain ⟨A, c, hv, _⟩ := id hs
  subst hv
  unfold rdo
  by_cases h0 : at_ < 0
  · rw [if_pos (.inl h0)]
    exact (pread_low A _ c at_ w (decide_eq_true h0)).mono fun e w' ⟨k1, k2⟩ => ⟨_, k1, ownI_nil _ _, k2⟩
  · by_cases h1 : (l.length : Int) < at_
    · rw [if_pos (.inr h1)]
      exact (pread_high A _ c at_ w (decide_eq_false h0) (decide_eq_true h1)).mono fun e w' ⟨k1, k2⟩ => ⟨_, k1, ownI_nil _ _, k2⟩
    · rw [if_neg (by omega)]
      obtain ⟨a, rfl⟩ : ∃ a : Nat, at_ = (a : Int) := ⟨at_.toNat, by omega⟩
      rw [Int.toNat_natCast]
      have hR : ∀ W, Below w.heap.size w W → RdAt W (w.heap.size + 1) (.slice A l.length c) (a : Int) 0 → Calls Tryd.prog 48 #[.pointer (some ⟨w.heap.size + 1, 0, none⟩)] W (InsTold (.slice A l.length c) (w.heap.size + 1) (pin l a 0) W) := fun W hW hrd =>
        pinstr_any (w0 := w) ⟨hs, hb, hl, by omega, Nat.le_succ _, hW, hrd⟩ hT
      refine pread_core A c a _ l w _ _ _ _ _ _ (decide_eq_false h0) (by simp; omega) _ rfl hR _ ?_
      obtain ⟨h2, h3⟩ := pin_ri l a 0
      by_cases he : (ri l a 0).2.2 = 0
      · rw [if_pos he, h3 he]
        exact .inl ⟨he, rfl⟩
      · rw [if_neg he, ← h2]
        exact .inr ⟨by rw [h2]; exact he, rfl⟩
end Go.Proofs.YtdmidagcdhhlhaaDoor.Ins
