/- The document's reader: the next number, with its sign or without. -/
import Derived.Test.YtdmidagcdhhlhaaDoorInsReader
import Derived.Test.YtdmidagcdhhlhaaDoorStabAll
import Derived.Test.YtdmidagcdhhlhaaDoorLebTwo
namespace Go.Proofs.YtdmidagcdhhlhaaDoor.Ins
open Go.RowKit Ints Typ
set_option maxRecDepth 100000
set_option maxHeartbeats 1000000

theorem run_f0 (g : Nat) (W : World) : (Instr.fieldAt 84 (.pointer (some ⟨g, 0, none⟩)) 0).run Tryd.prog W = .ok (.pointer (some ⟨g, 0, none⟩)) W := by go_simp
theorem run_f1 (g : Nat) (W : World) : (Instr.fieldAt 84 (.pointer (some ⟨g, 0, none⟩)) 1).run Tryd.prog W = .ok (.pointer (some ⟨g, 1, none⟩)) W := by go_simp
theorem run_ld (A : Option Addr) (n c g o : Nat) (W : World) (h : W.cell? ⟨g, o, none⟩ = some (.slice A n c)) : (Instr.loadAt 23 (.pointer (some ⟨g, o, none⟩))).run Tryd.prog W = .ok (.slice A n c) W := by go_simp
theorem run_li (x : Int) (g o : Nat) (W : World) (h : W.cell? ⟨g, o, none⟩ = some (.int .i64 x)) : (Instr.loadAt 3 (.pointer (some ⟨g, o, none⟩))).run Tryd.prog W = .ok (.int .i64 x) W := by go_simp
/-- A number, the place, the error. -/
def ru (l : List Int) (a : Nat) (e : Int) : Int × Nat × Int := if e ≠ 0 then (0, a, e) else match Leb.rdl Leb.fitU 32 (l.drop a) 0 0 with
  | .ok n m => ((n : Int), a + m / 7, 0)
  | .short => (0, a, 2)
  | .form => (0, a, 3)
def rs (bits : Nat) (l : List Int) (a : Nat) (e : Int) : Int × Nat × Int := if e ≠ 0 then (0, a, e) else match Leb.rdl Leb.fitS bits (l.drop a) 0 0 with
  | .ok n m => (Leb.ext n m, a + m / 7, 0)
  | .short => (0, a, 2)
  | .form => (0, a, 3)
theorem u_err (g : Nat) (v : Value) (a : Nat) (e : Int) (w : World) (hR : RdAt w g v (a : Int) e) (he : e ≠ 0) : Calls Tryd.prog 74 #[.pointer (some ⟨g, 0, none⟩)] w (Turn v g (.int .i64 0) a e w) := by
  have t2 : (e != 0) = true := by simpa using he
  have HR := Lib.hid hR
  obtain ⟨h0, c0, c1, c2, f0, f1, f2⟩ := hR
  clear he
  go_enter Tryd.func74, Tryd.ntmps74
  go_wp2_with fail
  go_ret
  exact ⟨rfl, HR.out, But.refl _ _⟩
theorem u_core (g : Nat) (A : Option Addr) (n c : Nat) (a x p E : Int) (w : World) (hR : RdAt w g (.slice A n c) a 0)
    (h : ∀ W, Below w.heap.size w W → Calls Tryd.prog 91 #[.slice A n c, .int .i64 a, .int .i64 32] W (Leb.RTold W x p E .u64)) (hx : IntKind.i64.wrap x = x) (y q : Int) (hy : (E = 0 ∧ y = x ∧ q = p) ∨ (E ≠ 0 ∧ y = 0 ∧ q = a)) :
    Calls Tryd.prog 74 #[.pointer (some ⟨g, 0, none⟩)] w fun en w' => en = .returned (.int .i64 y) ∧ RdAt w' g (.slice A n c) q E ∧ But g w w' := by
  have HR := Lib.hid hR
  have H := Lib.hid h
  obtain ⟨h0, c0, c1, c2, f0, f1, f2⟩ := hR
  clear h
  go_enter Tryd.func74, Tryd.ntmps74
  go_wp2_with fail
  refine Stab.region 36 [.is (.pointer (some ⟨g, 0, none⟩)), .is (.pointer (some ⟨g, 0, none⟩)), .is (.pointer (some ⟨g, 0, none⟩)), .is (.slice A n c), .is (.pointer (some ⟨g, 0, none⟩)), .is (.pointer (some ⟨g, 0, none⟩)), .is (.pointer (some ⟨g, 1, none⟩)), .is (.int .i64 a),
    .is (.tuple #[.int .u64 x, .int .i64 p, .int .i64 E]), .is (.tuple #[.int .u64 x, .int .i64 p, .int .i64 E]), .is (.int .u64 x), .is (.int .i64 p), .is (.int .i64 E), .is (.int .u64 x), .is (.int .i64 p), .is (.int .i64 E)] (by kernel_rfl) (by kernel_rfl) rfl rfl ?_ ?_
  · with_reducible refine Stab.steps_cons ?_ ?_ ?_
    · exact Stab.owes_move rfl rfl rfl
    · exact trivial
    with_reducible refine Stab.steps_cons ?_ ?_ ?_
    · exact Stab.owes_nil rfl rfl rfl
    · exact trivial
    with_reducible refine Stab.steps_cons ?_ ?_ ?_
    · exact Stab.owes_fieldAt rfl rfl (fun W => run_f0 g W) rfl
    · exact trivial
    with_reducible refine Stab.steps_cons ?_ ?_ ?_
    · exact Stab.owes_load rfl (fun v W hb hv => by subst hv; exact run_ld _ _ _ _ _ W (HR.out.keep hb).c0) rfl
    · exact trivial
    with_reducible refine Stab.steps_cons ?_ ?_ ?_
    · exact Stab.owes_move rfl rfl rfl
    · exact trivial
    with_reducible refine Stab.steps_cons ?_ ?_ ?_
    · exact Stab.owes_nil rfl rfl rfl
    · exact trivial
    with_reducible refine Stab.steps_cons ?_ ?_ ?_
    · exact Stab.owes_fieldAt rfl rfl (fun W => run_f1 g W) rfl
    · exact trivial
    with_reducible refine Stab.steps_cons ?_ ?_ ?_
    · exact Stab.owes_load rfl (fun v W hb hv => by subst hv; exact run_li _ _ _ W (HR.out.keep hb).c1) rfl
    · exact trivial
    with_reducible refine Stab.steps_cons ?_ ?_ ?_
    · (refine Stab.owes_call Tryd.func91 (by kernel_rfl) (by kernel_rfl) rfl (fun vs W hb hall => ?_) rfl; obtain ⟨_, _, rfl, rfl, _, _, rfl, rfl, _, _, rfl, rfl, rfl⟩ := hall; refine (H.out W hb).mono ?_; rintro e w2 ⟨rfl, hb2⟩; exact ⟨_, rfl, hb2, rfl⟩)
    · exact trivial
    with_reducible refine Stab.steps_cons ?_ ?_ ?_
    · exact Stab.owes_move rfl rfl rfl
    · exact trivial
    with_reducible refine Stab.steps_cons ?_ ?_ ?_
    · exact Stab.owes_extract rfl rfl (fun W => Stab.ext0 W) rfl
    · exact trivial
    with_reducible refine Stab.steps_cons ?_ ?_ ?_
    · exact Stab.owes_extract rfl rfl (fun W => Stab.ext1 W) rfl
    · exact trivial
    with_reducible refine Stab.steps_cons ?_ ?_ ?_
    · exact Stab.owes_extract rfl rfl (fun W => Stab.ext2 W) rfl
    · exact trivial
    with_reducible refine Stab.steps_cons ?_ ?_ ?_
    · exact Stab.owes_assign rfl rfl rfl
    · exact trivial
    with_reducible refine Stab.steps_cons ?_ ?_ ?_
    · exact Stab.owes_assign rfl rfl rfl
    · exact trivial
    with_reducible refine Stab.steps_cons ?_ ?_ ?_
    · exact Stab.owes_assign rfl rfl rfl
    · exact trivial
    exact Stab.steps_nil
  · intro W hb _
    simp only [Act.put, List.setIfInBounds_toArray, List.set_cons_succ, List.set_cons_zero]
    have HRW := Lib.hid (HR.out.keep hb)
    obtain ⟨d0, e0, e1, e2, g0, g1, g2⟩ := HR.out.keep hb
    have HB := Lib.hid hb
    clear hb h0 c0 c1 c2 f0 f1 f2
    rcases hy with ⟨rfl, rfl, rfl⟩ | ⟨hE, rfl, rfl⟩
    · go_wp2
      go_ret
      exact ⟨rfl, (HRW.out.set2 0).set1 _, ((But.of_below HB.out).setCell (p := ⟨g, 2, none⟩) rfl _).setCell (p := ⟨g, 1, none⟩) rfl _⟩
    · have t2 : (E != 0) = true := by simpa using hE
      clear hE
      go_wp2
      go_ret
      exact ⟨rfl, HRW.out.set2 E, (But.of_below HB.out).setCell (p := ⟨g, 2, none⟩) rfl _⟩
theorem s_err (bits : Int) (g : Nat) (v : Value) (a : Nat) (e : Int) (w : World) (hR : RdAt w g v (a : Int) e) (he : e ≠ 0) : Calls Tryd.prog 76 #[.pointer (some ⟨g, 0, none⟩), .int .i64 bits] w (Turn v g (.int .i64 0) a e w) := by
  have t2 : (e != 0) = true := by simpa using he
  have HR := Lib.hid hR
  obtain ⟨h0, c0, c1, c2, f0, f1, f2⟩ := hR
  clear he
  go_enter Tryd.func76, Tryd.ntmps76
  go_wp2_with fail
  go_ret
  exact ⟨rfl, HR.out, But.refl _ _⟩
theorem s_core (bits : Int) (g : Nat) (A : Option Addr) (n c : Nat) (a x p E : Int) (w : World) (hR : RdAt w g (.slice A n c) a 0)
    (h : ∀ W, Below w.heap.size w W → Calls Tryd.prog 92 #[.slice A n c, .int .i64 a, .int .i64 bits] W (Leb.RTold W x p E .i64)) (y q : Int) (hy : (E = 0 ∧ y = x ∧ q = p) ∨ (E ≠ 0 ∧ y = 0 ∧ q = a)) :
    Calls Tryd.prog 76 #[.pointer (some ⟨g, 0, none⟩), .int .i64 bits] w fun en w' => en = .returned (.int .i64 y) ∧ RdAt w' g (.slice A n c) q E ∧ But g w w' := by
  have HR := Lib.hid hR
  have H := Lib.hid h
  obtain ⟨h0, c0, c1, c2, f0, f1, f2⟩ := hR
  clear h
  go_enter Tryd.func76, Tryd.ntmps76
  go_wp2_with fail
  refine Stab.region 38 [.is (.pointer (some ⟨g, 0, none⟩)), .is (.pointer (some ⟨g, 0, none⟩)), .is (.pointer (some ⟨g, 0, none⟩)), .is (.slice A n c), .is (.pointer (some ⟨g, 0, none⟩)), .is (.pointer (some ⟨g, 0, none⟩)), .is (.pointer (some ⟨g, 1, none⟩)), .is (.int .i64 a), .is (.int .i64 bits),
    .is (.tuple #[.int .i64 x, .int .i64 p, .int .i64 E]), .is (.tuple #[.int .i64 x, .int .i64 p, .int .i64 E]), .is (.int .i64 x), .is (.int .i64 p), .is (.int .i64 E), .is (.int .i64 x), .is (.int .i64 p), .is (.int .i64 E)] (by kernel_rfl) (by kernel_rfl) rfl rfl ?_ ?_
  · with_reducible refine Stab.steps_cons ?_ ?_ ?_
    · exact Stab.owes_move rfl rfl rfl
    · exact trivial
    with_reducible refine Stab.steps_cons ?_ ?_ ?_
    · exact Stab.owes_nil rfl rfl rfl
    · exact trivial
    with_reducible refine Stab.steps_cons ?_ ?_ ?_
    · exact Stab.owes_fieldAt rfl rfl (fun W => run_f0 g W) rfl
    · exact trivial
    with_reducible refine Stab.steps_cons ?_ ?_ ?_
    · exact Stab.owes_load rfl (fun v W hb hv => by subst hv; exact run_ld _ _ _ _ _ W (HR.out.keep hb).c0) rfl
    · exact trivial
    with_reducible refine Stab.steps_cons ?_ ?_ ?_
    · exact Stab.owes_move rfl rfl rfl
    · exact trivial
    with_reducible refine Stab.steps_cons ?_ ?_ ?_
    · exact Stab.owes_nil rfl rfl rfl
    · exact trivial
    with_reducible refine Stab.steps_cons ?_ ?_ ?_
    · exact Stab.owes_fieldAt rfl rfl (fun W => run_f1 g W) rfl
    · exact trivial
    with_reducible refine Stab.steps_cons ?_ ?_ ?_
    · exact Stab.owes_load rfl (fun v W hb hv => by subst hv; exact run_li _ _ _ W (HR.out.keep hb).c1) rfl
    · exact trivial
    with_reducible refine Stab.steps_cons ?_ ?_ ?_
    · exact Stab.owes_move rfl rfl rfl
    · exact trivial
    with_reducible refine Stab.steps_cons ?_ ?_ ?_
    · (refine Stab.owes_call Tryd.func92 (by kernel_rfl) (by kernel_rfl) rfl (fun vs W hb hall => ?_) rfl; obtain ⟨_, _, rfl, rfl, _, _, rfl, rfl, _, _, rfl, rfl, rfl⟩ := hall; refine (H.out W hb).mono ?_; rintro e w2 ⟨rfl, hb2⟩; exact ⟨_, rfl, hb2, rfl⟩)
    · exact trivial
    with_reducible refine Stab.steps_cons ?_ ?_ ?_
    · exact Stab.owes_move rfl rfl rfl
    · exact trivial
    with_reducible refine Stab.steps_cons ?_ ?_ ?_
    · exact Stab.owes_extract rfl rfl (fun W => Stab.ext0 W) rfl
    · exact trivial
    with_reducible refine Stab.steps_cons ?_ ?_ ?_
    · exact Stab.owes_extract rfl rfl (fun W => Stab.ext1 W) rfl
    · exact trivial
    with_reducible refine Stab.steps_cons ?_ ?_ ?_
    · exact Stab.owes_extract rfl rfl (fun W => Stab.ext2 W) rfl
    · exact trivial
    with_reducible refine Stab.steps_cons ?_ ?_ ?_
    · exact Stab.owes_assign rfl rfl rfl
    · exact trivial
    with_reducible refine Stab.steps_cons ?_ ?_ ?_
    · exact Stab.owes_assign rfl rfl rfl
    · exact trivial
    with_reducible refine Stab.steps_cons ?_ ?_ ?_
    · exact Stab.owes_assign rfl rfl rfl
    · exact trivial
    exact Stab.steps_nil
  · intro W hb _
    simp only [Act.put, List.setIfInBounds_toArray, List.set_cons_succ, List.set_cons_zero]
    have HRW := Lib.hid (HR.out.keep hb)
    obtain ⟨d0, e0, e1, e2, g0, g1, g2⟩ := HR.out.keep hb
    have HB := Lib.hid hb
    clear hb h0 c0 c1 c2 f0 f1 f2
    rcases hy with ⟨rfl, rfl, rfl⟩ | ⟨hE, rfl, rfl⟩
    · go_wp2
      go_ret
      exact ⟨rfl, (HRW.out.set2 0).set1 _, ((But.of_below HB.out).setCell (p := ⟨g, 2, none⟩) rfl _).setCell (p := ⟨g, 1, none⟩) rfl _⟩
    · have t2 : (E != 0) = true := by simpa using hE
      clear hE
      go_wp2
      go_ret
      exact ⟨rfl, HRW.out.set2 E, (But.of_below HB.out).setCell (p := ⟨g, 2, none⟩) rfl _⟩
theorem ru_le {l : List Int} {a : Nat} {e : Int} (h : a ≤ l.length) : (ru l a e).2.1 ≤ l.length := by
  unfold ru
  split
  · exact h
  · cases hr : Leb.rdl Leb.fitU 32 (l.drop a) 0 0 with
    | short => exact h
    | form => exact h
    | ok n m =>
      have hm := rdl_len _ _ _ _ _ hr
      rw [List.length_drop] at hm
      show a + m / 7 ≤ l.length
      omega
theorem rs_le {bits : Nat} {l : List Int} {a : Nat} {e : Int} (h : a ≤ l.length) : (rs bits l a e).2.1 ≤ l.length := by
  unfold rs
  split
  · exact h
  · cases hr : Leb.rdl Leb.fitS bits (l.drop a) 0 0 with
    | short => exact h
    | form => exact h
    | ok n m =>
      have hm := rdl_len _ _ _ _ _ hr
      rw [List.length_drop] at hm
      show a + m / 7 ≤ l.length
      omega
theorem u_any {w0 w : World} {v : Value} {l : List Int} {g a : Nat} {e : Int} (h : Rd w0 v l g w a e) :
    Calls Tryd.prog 74 #[.pointer (some ⟨g, 0, none⟩)] w (Turn v g (.int .i64 (ru l a e).1) (ru l a e).2.1 (ru l a e).2.2 w) := by
  by_cases he : e = 0
  · subst he
    have hsl := h.sl.keep h.below
    obtain ⟨A, c, hv, _⟩ := id hsl
    subst hv
    have hR : ∀ W, Below w.heap.size w W → Calls Tryd.prog 91 #[.slice A l.length c, .int .i64 (a : Int), .int .i64 32] W _ := fun W hW => Leb.refReadU_is A c 32 a l W (hsl.keep hW).leb h.len (by255 h.by_) (by omega) (by omega) h.at_le
    unfold ru
    rw [if_neg (by simp)]
    cases hr : Leb.rdl Leb.fitU 32 (l.drop a) 0 0 with
    | short => rw [hr] at hR; exact (u_core g A _ c a _ _ _ w h.rd hR (by decide) 0 a (.inr ⟨by decide, rfl, rfl⟩)).mono fun e w' ⟨k1, k2, k3⟩ => ⟨k1, k2, k3⟩
    | form => rw [hr] at hR; exact (u_core g A _ c a _ _ _ w h.rd hR (by decide) 0 a (.inr ⟨by decide, rfl, rfl⟩)).mono fun e w' ⟨k1, k2, k3⟩ => ⟨k1, k2, k3⟩
    | ok n m =>
      rw [hr] at hR
      have hn := (rdl32 (fun x hx => h.by_ x (List.mem_of_mem_drop hx)) hr).1
      exact (u_core g A _ c a (n : Int) ((a + m / 7 : Nat) : Int) 0 w h.rd hR (IntWalk.i64_in _ (by omega)) (n : Int) ((a + m / 7 : Nat) : Int) (.inl ⟨rfl, rfl, rfl⟩)).mono fun e w' ⟨k1, k2, k3⟩ => ⟨k1, k2, k3⟩
  · have e1 : ru l a e = (0, a, e) := if_pos he
    rw [e1]
    exact u_err g v a e w h.rd he
theorem s_any {w0 w : World} {v : Value} {l : List Int} {g a : Nat} {e : Int} (bits : Nat) (hb : bits = 32 ∨ bits = 64) (h : Rd w0 v l g w a e) :
    Calls Tryd.prog 76 #[.pointer (some ⟨g, 0, none⟩), .int .i64 (bits : Int)] w (Turn v g (.int .i64 (rs bits l a e).1) (rs bits l a e).2.1 (rs bits l a e).2.2 w) := by
  by_cases he : e = 0
  · subst he
    have hsl := h.sl.keep h.below
    obtain ⟨A, c, hv, _⟩ := id hsl
    subst hv
    have hR : ∀ W, Below w.heap.size w W → Calls Tryd.prog 92 #[.slice A l.length c, .int .i64 (a : Int), .int .i64 (bits : Int)] W _ := fun W hW => Leb.refReadS_is A c bits a l W (hsl.keep hW).leb h.len (by255 h.by_) (by omega) (by omega) h.at_le
    unfold rs
    rw [if_neg (by simp)]
    cases hr : Leb.rdl Leb.fitS bits (l.drop a) 0 0 with
    | short => rw [hr] at hR; exact (s_core bits g A _ c a _ _ _ w h.rd hR 0 a (.inr ⟨by decide, rfl, rfl⟩)).mono fun e w' ⟨k1, k2, k3⟩ => ⟨k1, k2, k3⟩
    | form => rw [hr] at hR; exact (s_core bits g A _ c a _ _ _ w h.rd hR 0 a (.inr ⟨by decide, rfl, rfl⟩)).mono fun e w' ⟨k1, k2, k3⟩ => ⟨k1, k2, k3⟩
    | ok n m =>
      rw [hr] at hR
      exact (s_core bits g A _ c a (Leb.ext n m) ((a + m / 7 : Nat) : Int) 0 w h.rd hR (Leb.ext n m) ((a + m / 7 : Nat) : Int) (.inl ⟨rfl, rfl, rfl⟩)).mono fun e w' ⟨k1, k2, k3⟩ => ⟨k1, k2, k3⟩
  · have e1 : rs bits l a e = (0, a, e) := if_pos he
    rw [e1]
    exact s_err bits g v a e w h.rd he
end Go.Proofs.YtdmidagcdhhlhaaDoor.Ins
