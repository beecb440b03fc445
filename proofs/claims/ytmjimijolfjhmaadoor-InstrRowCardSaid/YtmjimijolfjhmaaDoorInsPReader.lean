/- The program's reader: a byte, a fault, a number. -/
import Derived.Test.YtmjimijolfjhmaaDoorInsNum
import Derived.Test.YtmjimijolfjhmaaDoorInsPKind
namespace Go.Proofs.YtmjimijolfjhmaaDoor.Ins
open Go.RowKit Ints Typ
set_option maxRecDepth 100000
set_option maxHeartbeats 1000000

theorem pfail_at (err : Int) {w : World} {g : Nat} {v : Value} {a e : Int} (hR : RdAt w g v a e) :
    Calls Tryd.prog 41 #[.pointer (some ⟨g, 0, none⟩), .int .i64 err] w fun en w' => en = .returned (.tuple #[]) ∧ RdAt w' g v a (rf true e err) ∧ But g w w' := by
  have HR := Lib.hid hR
  obtain ⟨h0, c0, c1, c2, f0, f1, f2⟩ := hR
  by_cases he : e = 0
  · subst he
    rw [show rf true 0 err = err from rfl]
    go_enter Tryd.func41, Tryd.ntmps41
    go_wp2_with fail
    refine bodyPost_end (v := .tuple #[]) (by simp [results, Tryd.results41, go_sem]) rfl ?_
    exact ⟨rfl, HR.out.set2 _, (But.refl _ _).setCell (p := ⟨g, 2, none⟩) rfl _⟩
  · have t1 : (e == 0) = false := by simpa using he
    rw [show rf true e err = e from if_neg he]
    clear he
    go_enter Tryd.func41, Tryd.ntmps41
    go_wp2_with fail
    refine bodyPost_end (v := .tuple #[]) (by simp [results, Tryd.results41, go_sem]) rfl ?_
    exact ⟨rfl, HR.out, But.refl _ _⟩
theorem pfail_any {w0 w : World} {v : Value} {l : List Int} {g a : Nat} {e : Int} (err : Int) (h : Rd w0 v l g w a e) :
    Calls Tryd.prog 41 #[.pointer (some ⟨g, 0, none⟩), .int .i64 err] w (Turn v g (.tuple #[]) a (rf true e err) w) := pfail_at err h.rd
theorem pnext_err (g : Nat) (v : Value) (at_ : Nat) (e : Int) (w : World) (hR : RdAt w g v (at_ : Int) e) (he : e ≠ 0) : Calls Tryd.prog 40 #[.pointer (some ⟨g, 0, none⟩)] w (Turn v g (.int .u8 0) at_ e w) := by
  have t2 : (e != 0) = true := by simpa using he
  have HR := Lib.hid hR
  obtain ⟨h0, c0, c1, c2, f0, f1, f2⟩ := hR
  clear he
  go_enter Tryd.func40, Tryd.ntmps40
  go_wp2_with fail
  go_ret
  exact ⟨rfl, HR.out, But.refl _ _⟩
theorem pnext_end (g : Nat) (A : Option Addr) (n c at_ : Nat) (w : World) (hR : RdAt w g (.slice A n c) (at_ : Int) 0) (h : n ≤ at_) : Calls Tryd.prog 40 #[.pointer (some ⟨g, 0, none⟩)] w (Turn (.slice A n c) g (.int .u8 0) at_ 2 w) := by
  have t1 : decide ((n : Int) ≤ (at_ : Int)) = true := by simp; omega
  have t0 : decide (n ≤ at_) = true := by simp; omega
  have HR := Lib.hid hR
  obtain ⟨h0, c0, c1, c2, f0, f1, f2⟩ := hR
  clear h
  go_enter Tryd.func40, Tryd.ntmps40
  go_wp2_with fail
  go_quiet (fail)
  go_wp2_with fail
  refine (pfail_at 2 (HR.out.drewN _)).mono ?_
  rintro en w1 ⟨rfl, hr1, hb1⟩
  have HR1 := Lib.hid hr1
  have HB1 := Lib.hid hb1
  clear hr1 hb1
  go_wp2_with fail
  go_ret
  exact ⟨rfl, HR1.out, ((But.refl _ _).drewN _).trans HB1.out⟩
theorem pnext_in (g b off n c at_ : Nat) (x : Int) (w : World) (hR : RdAt w g (.slice (some ⟨b, off, none⟩) n c) (at_ : Int) 0) (h : at_ < n) (hn : n ≤ 1000000) (_hne : b ≠ g) (_x0 : 0 ≤ x) (_x1 : x < 256) (hx : w.cell? ⟨b, off + at_, none⟩ = some (.int .u8 x)) : Calls Tryd.prog 40 #[.pointer (some ⟨g, 0, none⟩)] w (Turn (.slice (some ⟨b, off, none⟩) n c) g (.int .u8 x) (at_ + 1) 0 w) := by
  have t1 : decide ((n : Int) ≤ (at_ : Int)) = false := by simp; omega
  have t0 : decide (n ≤ at_) = false := by simp; omega
  have t2 : IntKind.i64.wrap ((at_ : Int) + 1) = (at_ : Int) + 1 := IntWalk.i64_in _ (by omega)
  have HR := Lib.hid hR
  obtain ⟨h0, c0, c1, c2, f0, f1, f2⟩ := hR
  go_enter Tryd.func40, Tryd.ntmps40
  go_wp2_with fail
  go_quiet (fail)
  go_wp2_with fail
  go_quiet (fail)
  go_wp2_with fail
  go_ret
  refine ⟨rfl, ?_, ?_⟩
  · rw [show ((at_ + 1 : Nat) : Int) = (at_ : Int) + 1 from by simp]
    exact (HR.out.drewN _).set1 _
  · exact ((But.refl _ _).drewN _).setCell (p := ⟨g, 1, none⟩) rfl _
theorem pnext_any {w0 w : World} {v : Value} {l : List Int} {g a : Nat} {e : Int} (h : Rd w0 v l g w a e) :
    Calls Tryd.prog 40 #[.pointer (some ⟨g, 0, none⟩)] w (Turn v g (.int .u8 (rb l a e).1) (rb l a e).2.1 (rb l a e).2.2 w) := by
  by_cases he : e = 0
  · subst he
    obtain ⟨A, c, hv, h2, h3, h4⟩ := id h.sl
    by_cases hin : a < l.length
    · rw [rb_in hin]
      obtain ⟨b, off, rfl, hB⟩ := h4 (fun e => by rw [e] at hin; simp at hin)
      have hB2 := (hB.keep h.below)
      have hx := hB2.2.2 a hin
      have hm := h.by_ (l.getD a 0) (by rw [List.getD_eq_getElem?_getD, List.getElem?_eq_getElem hin]; simp)
      subst hv
      exact pnext_in g b off _ c a _ w h.rd hin h.len (by have := hB.1; have := h.base; simp at *; omega) hm.1 hm.2 hx
    · rw [rb_end (by omega)]
      subst hv
      exact pnext_end g A _ c a w h.rd (by omega)
  · rw [rb_err he]
    exact pnext_err g v a e w h.rd he
/-- A number, the place, the error: behind an error the place says nothing. -/
def pu (l : List Int) (a : Nat) (e : Int) : Int × Nat × Int := if e ≠ 0 then (0, a, e) else match Leb.rdl Leb.fitU 32 (l.drop a) 0 0 with
  | .ok n m => ((n : Int), a + m / 7, 0)
  | .short => (0, 0, 2)
  | .form => (0, 0, 3)
def ps (bits : Nat) (l : List Int) (a : Nat) (e : Int) : Int × Nat × Int := if e ≠ 0 then (0, a, e) else match Leb.rdl Leb.fitS bits (l.drop a) 0 0 with
  | .ok n m => (Leb.ext n m, a + m / 7, 0)
  | .short => (0, 0, 2)
  | .form => (0, 0, 3)
theorem pu_err (g : Nat) (v : Value) (a : Nat) (e : Int) (w : World) (hR : RdAt w g v (a : Int) e) (he : e ≠ 0) : Calls Tryd.prog 43 #[.pointer (some ⟨g, 0, none⟩)] w (Turn v g (.int .i64 0) a e w) := by
  have t2 : (e != 0) = true := by simpa using he
  have HR := Lib.hid hR
  obtain ⟨h0, c0, c1, c2, f0, f1, f2⟩ := hR
  clear he
  go_enter Tryd.func43, Tryd.ntmps43
  go_wp2_with fail
  go_ret
  exact ⟨rfl, HR.out, But.refl _ _⟩
theorem ps_err (bits : Int) (g : Nat) (v : Value) (a : Nat) (e : Int) (w : World) (hR : RdAt w g v (a : Int) e) (he : e ≠ 0) : Calls Tryd.prog 47 #[.pointer (some ⟨g, 0, none⟩), .int .i64 bits] w (Turn v g (.int .i64 0) a e w) := by
  have t2 : (e != 0) = true := by simpa using he
  have HR := Lib.hid hR
  obtain ⟨h0, c0, c1, c2, f0, f1, f2⟩ := hR
  clear he
  go_enter Tryd.func47, Tryd.ntmps47
  go_wp2_with fail
  go_ret
  exact ⟨rfl, HR.out, But.refl _ _⟩
theorem prun_f0 (g : Nat) (W : World) : (Instr.fieldAt 47 (.pointer (some ⟨g, 0, none⟩)) 0).run Tryd.prog W = .ok (.pointer (some ⟨g, 0, none⟩)) W := by go_simp
theorem prun_f1 (g : Nat) (W : World) : (Instr.fieldAt 47 (.pointer (some ⟨g, 0, none⟩)) 1).run Tryd.prog W = .ok (.pointer (some ⟨g, 1, none⟩)) W := by go_simp
theorem rf_zero (E : Int) : rf true 0 E = E := rfl
theorem pu_core (g : Nat) (A : Option Addr) (n c : Nat) (a x p E : Int) (w : World) (hR : RdAt w g (.slice A n c) a 0)
    (h : ∀ W, Below w.heap.size w W → Calls Tryd.prog 63 #[.slice A n c, .int .i64 a, .int .i64 32] W (fun en w' => en = .returned (.tuple #[.int .u64 x, .int .i64 p, .int .i64 E]) ∧ Below W.heap.size W w')) (hx : IntKind.i64.wrap x = x) :
    Calls Tryd.prog 43 #[.pointer (some ⟨g, 0, none⟩)] w fun en w' => en = .returned (.int .i64 x) ∧ RdAt w' g (.slice A n c) p E ∧ But g w w' := by
  have HR := Lib.hid hR
  have H := Lib.hid h
  obtain ⟨h0, c0, c1, c2, f0, f1, f2⟩ := hR
  clear h
  go_enter Tryd.func43, Tryd.ntmps43
  go_wp2_with fail
  refine Stab.region 33 [.is (.pointer (some ⟨g, 0, none⟩)), .is (.pointer (some ⟨g, 0, none⟩)), .is (.pointer (some ⟨g, 0, none⟩)), .is (.slice A n c), .is (.pointer (some ⟨g, 0, none⟩)), .is (.pointer (some ⟨g, 0, none⟩)), .is (.pointer (some ⟨g, 1, none⟩)), .is (.int .i64 a),
    .is (.tuple #[.int .u64 x, .int .i64 p, .int .i64 E]), .is (.tuple #[.int .u64 x, .int .i64 p, .int .i64 E]), .is (.int .u64 x), .is (.int .i64 p), .is (.int .i64 E), .is (.int .u64 x), .is (.int .i64 p), .is (.int .i64 E)] (by kernel_rfl) (by kernel_rfl) rfl rfl ?_ ?_
  · with_reducible refine Stab.steps_cons ?_ ?_ ?_
    · exact Stab.owes_move rfl rfl rfl
    · exact trivial
    with_reducible refine Stab.steps_cons ?_ ?_ ?_
    · exact Stab.owes_nil rfl rfl rfl
    · exact trivial
    with_reducible refine Stab.steps_cons ?_ ?_ ?_
    · exact Stab.owes_fieldAt rfl rfl (fun W => prun_f0 g W) rfl
    · exact trivial
    with_reducible refine Stab.steps_cons ?_ ?_ ?_
    · exact Stab.owes_load rfl (fun v W hb hv => by subst hv; exact run_ld _ _ _ _ _ W (HR.out.keep hb).c0) rfl
    · exact trivial
    with_reducible refine Stab.steps_cons ?_ ?_ ?_
    · exact Stab.owes_move rfl rfl rfl
    · exact trivial
    with_reducible refine Stab.steps_cons ?_ ?_ ?_
    · exact Stab.owes_nil rfl rfl rfl
    · exact trivial
    with_reducible refine Stab.steps_cons ?_ ?_ ?_
    · exact Stab.owes_fieldAt rfl rfl (fun W => prun_f1 g W) rfl
    · exact trivial
    with_reducible refine Stab.steps_cons ?_ ?_ ?_
    · exact Stab.owes_load rfl (fun v W hb hv => by subst hv; exact run_li _ _ _ W (HR.out.keep hb).c1) rfl
    · exact trivial
    with_reducible refine Stab.steps_cons ?_ ?_ ?_
    · (refine Stab.owes_call Tryd.func63 (by kernel_rfl) (by kernel_rfl) rfl (fun vs W hb hall => ?_) rfl; obtain ⟨_, _, rfl, rfl, _, _, rfl, rfl, _, _, rfl, rfl, rfl⟩ := hall; refine (H.out W hb).mono ?_; rintro e w2 ⟨rfl, hb2⟩; exact ⟨_, rfl, hb2, rfl⟩)
    · exact trivial
    with_reducible refine Stab.steps_cons ?_ ?_ ?_
    · exact Stab.owes_move rfl rfl rfl
    · exact trivial
    with_reducible refine Stab.steps_cons ?_ ?_ ?_
    · exact Stab.owes_extract rfl rfl (fun W => Stab.ext0 W) rfl
    · exact trivial
    with_reducible refine Stab.steps_cons ?_ ?_ ?_
    · exact Stab.owes_extract rfl rfl (fun W => Stab.ext1 W) rfl
    · exact trivial
    with_reducible refine Stab.steps_cons ?_ ?_ ?_
    · exact Stab.owes_extract rfl rfl (fun W => Stab.ext2 W) rfl
    · exact trivial
    with_reducible refine Stab.steps_cons ?_ ?_ ?_
    · exact Stab.owes_assign rfl rfl rfl
    · exact trivial
    with_reducible refine Stab.steps_cons ?_ ?_ ?_
    · exact Stab.owes_assign rfl rfl rfl
    · exact trivial
    with_reducible refine Stab.steps_cons ?_ ?_ ?_
    · exact Stab.owes_assign rfl rfl rfl
    · exact trivial
    exact Stab.steps_nil
  · intro W hb _
    simp only [Act.put, List.setIfInBounds_toArray, List.set_cons_succ, List.set_cons_zero]
    have HRW := Lib.hid (HR.out.keep hb)
    have HB := Lib.hid hb
    clear hb h0 c0 c1 c2 f0 f1 f2
    go_wp2_with fail
    refine (pfail_at E HRW.out).mono ?_
    rw [rf_zero]
    rintro en w1 ⟨rfl, hr1, hb1⟩
    have HR1 := Lib.hid hr1
    have HB1 := Lib.hid ((But.of_below HB.out).trans hb1)
    clear hb1
    obtain ⟨d0, e0, e1, e2, g0, g1, g2⟩ := hr1
    go_wp2_with fail
    go_ret
    exact ⟨rfl, HR1.out.set1 _, HB1.out.setCell (p := ⟨g, 1, none⟩) rfl _⟩
theorem ps_core (bits : Int) (g : Nat) (A : Option Addr) (n c : Nat) (a x p E : Int) (w : World) (hR : RdAt w g (.slice A n c) a 0)
    (h : ∀ W, Below w.heap.size w W → Calls Tryd.prog 64 #[.slice A n c, .int .i64 a, .int .i64 bits] W (fun en w' => en = .returned (.tuple #[.int .i64 x, .int .i64 p, .int .i64 E]) ∧ Below W.heap.size W w')) :
    Calls Tryd.prog 47 #[.pointer (some ⟨g, 0, none⟩), .int .i64 bits] w fun en w' => en = .returned (.int .i64 x) ∧ RdAt w' g (.slice A n c) p E ∧ But g w w' := by
  have HR := Lib.hid hR
  have H := Lib.hid h
  obtain ⟨h0, c0, c1, c2, f0, f1, f2⟩ := hR
  clear h
  go_enter Tryd.func47, Tryd.ntmps47
  go_wp2_with fail
  refine Stab.region 35 [.is (.pointer (some ⟨g, 0, none⟩)), .is (.pointer (some ⟨g, 0, none⟩)), .is (.pointer (some ⟨g, 0, none⟩)), .is (.slice A n c), .is (.pointer (some ⟨g, 0, none⟩)), .is (.pointer (some ⟨g, 0, none⟩)), .is (.pointer (some ⟨g, 1, none⟩)), .is (.int .i64 a), .is (.int .i64 bits),
    .is (.tuple #[.int .i64 x, .int .i64 p, .int .i64 E]), .is (.tuple #[.int .i64 x, .int .i64 p, .int .i64 E]), .is (.int .i64 x), .is (.int .i64 p), .is (.int .i64 E), .is (.int .i64 x), .is (.int .i64 p), .is (.int .i64 E)] (by kernel_rfl) (by kernel_rfl) rfl rfl ?_ ?_
  · with_reducible refine Stab.steps_cons ?_ ?_ ?_
    · exact Stab.owes_move rfl rfl rfl
    · exact trivial
    with_reducible refine Stab.steps_cons ?_ ?_ ?_
    · exact Stab.owes_nil rfl rfl rfl
    · exact trivial
    with_reducible refine Stab.steps_cons ?_ ?_ ?_
    · exact Stab.owes_fieldAt rfl rfl (fun W => prun_f0 g W) rfl
    · exact trivial
    with_reducible refine Stab.steps_cons ?_ ?_ ?_
    · exact Stab.owes_load rfl (fun v W hb hv => by subst hv; exact run_ld _ _ _ _ _ W (HR.out.keep hb).c0) rfl
    · exact trivial
    with_reducible refine Stab.steps_cons ?_ ?_ ?_
    · exact Stab.owes_move rfl rfl rfl
    · exact trivial
    with_reducible refine Stab.steps_cons ?_ ?_ ?_
    · exact Stab.owes_nil rfl rfl rfl
    · exact trivial
    with_reducible refine Stab.steps_cons ?_ ?_ ?_
    · exact Stab.owes_fieldAt rfl rfl (fun W => prun_f1 g W) rfl
    · exact trivial
    with_reducible refine Stab.steps_cons ?_ ?_ ?_
    · exact Stab.owes_load rfl (fun v W hb hv => by subst hv; exact run_li _ _ _ W (HR.out.keep hb).c1) rfl
    · exact trivial
    with_reducible refine Stab.steps_cons ?_ ?_ ?_
    · exact Stab.owes_move rfl rfl rfl
    · exact trivial
    with_reducible refine Stab.steps_cons ?_ ?_ ?_
    · (refine Stab.owes_call Tryd.func64 (by kernel_rfl) (by kernel_rfl) rfl (fun vs W hb hall => ?_) rfl; obtain ⟨_, _, rfl, rfl, _, _, rfl, rfl, _, _, rfl, rfl, rfl⟩ := hall; refine (H.out W hb).mono ?_; rintro e w2 ⟨rfl, hb2⟩; exact ⟨_, rfl, hb2, rfl⟩)
    · exact trivial
    with_reducible refine Stab.steps_cons ?_ ?_ ?_
    · exact Stab.owes_move rfl rfl rfl
    · exact trivial
    with_reducible refine Stab.steps_cons ?_ ?_ ?_
    · exact Stab.owes_extract rfl rfl (fun W => Stab.ext0 W) rfl
    · exact trivial
    with_reducible refine Stab.steps_cons ?_ ?_ ?_
    · exact Stab.owes_extract rfl rfl (fun W => Stab.ext1 W) rfl
    · exact trivial
    with_reducible refine Stab.steps_cons ?_ ?_ ?_
    · exact Stab.owes_extract rfl rfl (fun W => Stab.ext2 W) rfl
    · exact trivial
    with_reducible refine Stab.steps_cons ?_ ?_ ?_
    · exact Stab.owes_assign rfl rfl rfl
    · exact trivial
    with_reducible refine Stab.steps_cons ?_ ?_ ?_
    · exact Stab.owes_assign rfl rfl rfl
    · exact trivial
    with_reducible refine Stab.steps_cons ?_ ?_ ?_
    · exact Stab.owes_assign rfl rfl rfl
    · exact trivial
    exact Stab.steps_nil
  · intro W hb _
    simp only [Act.put, List.setIfInBounds_toArray, List.set_cons_succ, List.set_cons_zero]
    have HRW := Lib.hid (HR.out.keep hb)
    have HB := Lib.hid hb
    clear hb h0 c0 c1 c2 f0 f1 f2
    go_wp2_with fail
    refine (pfail_at E HRW.out).mono ?_
    rw [rf_zero]
    rintro en w1 ⟨rfl, hr1, hb1⟩
    have HR1 := Lib.hid hr1
    have HB1 := Lib.hid ((But.of_below HB.out).trans hb1)
    clear hb1
    obtain ⟨d0, e0, e1, e2, g0, g1, g2⟩ := hr1
    go_wp2_with fail
    go_ret
    exact ⟨rfl, HR1.out.set1 _, HB1.out.setCell (p := ⟨g, 1, none⟩) rfl _⟩
theorem pu_le {l : List Int} {a : Nat} {e : Int} (h : a ≤ l.length) : (pu l a e).2.1 ≤ l.length := by
  unfold pu
  split
  · exact h
  · cases hr : Leb.rdl Leb.fitU 32 (l.drop a) 0 0 with
    | short => exact Nat.zero_le _
    | form => exact Nat.zero_le _
    | ok n m =>
      have hm := rdl_len _ _ _ _ _ hr
      rw [List.length_drop] at hm
      show a + m / 7 ≤ l.length
      omega
theorem ps_le {bits : Nat} {l : List Int} {a : Nat} {e : Int} (h : a ≤ l.length) : (ps bits l a e).2.1 ≤ l.length := by
  unfold ps
  split
  · exact h
  · cases hr : Leb.rdl Leb.fitS bits (l.drop a) 0 0 with
    | short => exact Nat.zero_le _
    | form => exact Nat.zero_le _
    | ok n m =>
      have hm := rdl_len _ _ _ _ _ hr
      rw [List.length_drop] at hm
      show a + m / 7 ≤ l.length
      omega
theorem pu_any {w0 w : World} {v : Value} {l : List Int} {g a : Nat} {e : Int} (h : Rd w0 v l g w a e) :
    Calls Tryd.prog 43 #[.pointer (some ⟨g, 0, none⟩)] w (Turn v g (.int .i64 (pu l a e).1) (pu l a e).2.1 (pu l a e).2.2 w) := by
  by_cases he : e = 0
  · subst he
    have hsl := h.sl.keep h.below
    obtain ⟨A, c, hv, _⟩ := id hsl
    subst hv
    have hR : ∀ W, Below w.heap.size w W → Calls Tryd.prog 63 #[.slice A l.length c, .int .i64 (a : Int), .int .i64 32] W _ := fun W hW => Leb.ReadU_is A c 32 a l W (hsl.keep hW).leb h.len (by255 h.by_) (by omega) (by omega) h.at_le
    unfold pu
    rw [if_neg (by simp)]
    cases hr : Leb.rdl Leb.fitU 32 (l.drop a) 0 0 with
    | short => rw [hr] at hR; exact (pu_core g A _ c a _ _ _ w h.rd hR (by decide)).mono fun e w' ⟨k1, k2, k3⟩ => ⟨k1, k2, k3⟩
    | form => rw [hr] at hR; exact (pu_core g A _ c a _ _ _ w h.rd hR (by decide)).mono fun e w' ⟨k1, k2, k3⟩ => ⟨k1, k2, k3⟩
    | ok n m =>
      rw [hr] at hR
      have hn := (rdl32 (fun x hx => h.by_ x (List.mem_of_mem_drop hx)) hr).1
      exact (pu_core g A _ c a (n : Int) ((a + m / 7 : Nat) : Int) 0 w h.rd hR (IntWalk.i64_in _ (by omega))).mono fun e w' ⟨k1, k2, k3⟩ => ⟨k1, k2, k3⟩
  · have e1 : pu l a e = (0, a, e) := if_pos he
    rw [e1]
    exact pu_err g v a e w h.rd he
theorem ps_any {w0 w : World} {v : Value} {l : List Int} {g a : Nat} {e : Int} (bits : Nat) (hb : bits = 32 ∨ bits = 64) (h : Rd w0 v l g w a e) :
    Calls Tryd.prog 47 #[.pointer (some ⟨g, 0, none⟩), .int .i64 (bits : Int)] w (Turn v g (.int .i64 (ps bits l a e).1) (ps bits l a e).2.1 (ps bits l a e).2.2 w) := by
  by_cases he : e = 0
  · subst he
    have hsl := h.sl.keep h.below
    obtain ⟨A, c, hv, _⟩ := id hsl
    subst hv
    have hR : ∀ W, Below w.heap.size w W → Calls Tryd.prog 64 #[.slice A l.length c, .int .i64 (a : Int), .int .i64 (bits : Int)] W _ := fun W hW => Leb.ReadS_is A c bits a l W (hsl.keep hW).leb h.len (by255 h.by_) (by omega) (by omega) h.at_le
    unfold ps
    rw [if_neg (by simp)]
    cases hr : Leb.rdl Leb.fitS bits (l.drop a) 0 0 with
    | short => rw [hr] at hR; exact (ps_core bits g A _ c a _ _ _ w h.rd hR).mono fun e w' ⟨k1, k2, k3⟩ => ⟨k1, k2, k3⟩
    | form => rw [hr] at hR; exact (ps_core bits g A _ c a _ _ _ w h.rd hR).mono fun e w' ⟨k1, k2, k3⟩ => ⟨k1, k2, k3⟩
    | ok n m =>
      rw [hr] at hR
      exact (ps_core bits g A _ c a (Leb.ext n m) ((a + m / 7 : Nat) : Int) 0 w h.rd hR).mono fun e w' ⟨k1, k2, k3⟩ => ⟨k1, k2, k3⟩
  · have e1 : ps bits l a e = (0, a, e) := if_pos he
    rw [e1]
    exact ps_err bits g v a e w h.rd he
end Go.Proofs.YtmjimijolfjhmaaDoor.Ins
