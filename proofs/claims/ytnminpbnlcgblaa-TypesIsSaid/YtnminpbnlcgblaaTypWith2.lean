/- The program's Within. -/
import Derived.Test.YtnminpbnlcgblaaTypWithin
namespace Go.Proofs.Ytnminpbnlcgblaa.Typ
open Go.RowKit
set_option maxRecDepth 100000
set_option maxHeartbeats 1000000

theorem eq_lv (x y : Operand) (a0 a1 b0 b1 : Int) (ha hb : Bool) (W : World) : (do eqGuard BinOp.eql 26 x y (lv a0 a1 ha) (lv b0 b1 hb); binOp BinOp.eql 26 (lv a0 a1 ha) (lv b0 b1 hb) : Sem Value).run Try.prog W = .ok (.bool (a0 == b0 && (a1 == b1 && ha == hb))) W := by
  unfold lv
  go_simp
  by_cases h0 : a0 = b0
  · by_cases h1 : a1 = b1
    · by_cases h2 : ha = hb
      · simp [h0, h1, h2]
      · simp [h0, h1, h2]
    · simp [h0, h1]
  · simp [h0]
theorem run_lv (a b : Int) (h : Bool) (g : Nat) (W : World) (h0 : W.cell? ⟨g, 0, none⟩ = some (.int .i64 a)) (h1 : W.cell? ⟨g, 1, none⟩ = some (.int .i64 b)) (h2 : W.cell? ⟨g, 2, none⟩ = some (.bool h)) : (Instr.loadAt 26 (.pointer (some ⟨g, 0, none⟩))).run Try.prog W = .ok (lv a b h) W := by
  unfold lv
  go_simp
/-- Limits that lie in memory. -/
def LvAt (w : World) (g : Nat) (a b : Int) (h : Bool) : Prop := g < w.heap.size ∧ w.cell? ⟨g, 0, none⟩ = some (.int .i64 a) ∧ w.cell? ⟨g, 1, none⟩ = some (.int .i64 b) ∧ w.cell? ⟨g, 2, none⟩ = some (.bool h)
theorem LvAt.keep {w W : World} {g : Nat} {a b : Int} {h : Bool} (x : LvAt w g a b h) (hb : Below w.heap.size w W) : LvAt W g a b h := by
  obtain ⟨h0, h1, h2, h3⟩ := x
  exact ⟨Nat.lt_of_lt_of_le h0 hb.size, by rw [hb.cell (p := ⟨g, 0, none⟩) h0]; exact h1, by rw [hb.cell (p := ⟨g, 1, none⟩) h0]; exact h2, by rw [hb.cell (p := ⟨g, 2, none⟩) h0]; exact h3⟩
theorem LvAt.run {W : World} {g : Nat} {a b : Int} {h : Bool} (x : LvAt W g a b h) : (Instr.loadAt 26 (.pointer (some ⟨g, 0, none⟩))).run Try.prog W = .ok (lv a b h) W := run_lv a b h g W x.2.1 x.2.2.1 x.2.2.2
theorem LvAt.at_ (w : World) (g : Nat) (a b : Int) (h : Bool) (t : TypeId) (hg : g = w.heap.size) : LvAt (w.alloc (.cells #[.int .i64 a, .int .i64 b, .bool h] t)) g a b h := by subst hg; exact ⟨by simp, by simp, by simp, by simp⟩
theorem LvAt.new (w : World) (a b : Int) (h : Bool) (t : TypeId) : LvAt (w.alloc (.cells #[.int .i64 a, .int .i64 b, .bool h] t)) w.heap.size a b h := ⟨by simp, by simp, by simp, by simp⟩
/-- The numbers of a value of limits. -/
def nm0 (a0 : Int) (b0 : Int) : Int := mn a0 b0
def nm1 (a1 : Int) (ha : Bool) (b1 : Int) (hb : Bool) : Int := bif hb then (bif ha then (bif decide (a1 ≤ b1) then a1 else b1) else b1) else a1
theorem nar_eq (a0 a1 b0 b1 : Int) (ha hb : Bool) : nar a0 a1 ha b0 b1 hb = lv (mn a0 b0) (nm1 a1 ha b1 hb) (hb || ha) := by
  unfold nar nm1
  cases hb <;> cases ha <;> cases decide (a1 ≤ b1) <;> rfl
theorem wi_eq (a0 a1 b0 b1 : Int) (ha hb : Bool) : (a0 == mn a0 b0 && (a1 == nm1 a1 ha b1 hb && ha == (hb || ha))) = wi a0 a1 ha b0 b1 hb := by
  unfold wi mn nm1
  by_cases h0 : b0 ≤ a0
  · rw [decide_eq_true h0]
    cases hb <;> cases ha
    · simp
    · simp
    · simp
    · by_cases h1 : a1 ≤ b1
      · simp [h1]
      · simp [h1]; omega
  · rw [decide_eq_false h0]
    have : (a0 == b0) = false := by simp; omega
    simp [this]
theorem within_any (a0 a1 b0 b1 : Int) (ha hb : Bool) (w : World) : Calls Try.prog 25 #[lv a0 a1 ha, lv b0 b1 hb] w fun e w' => e = .returned (.bool (wi a0 a1 ha b0 b1 hb)) ∧ Below w.heap.size w w' := by
  have HN := Lib.hid (fun W => nar_any a0 a1 b0 b1 ha hb W)
  have HE := Lib.hid (fun x y W => eq_lv x y a0 a1 (mn a0 b0) (nm1 a1 ha b1 hb) ha (hb || ha) W)
  rw [wi_eq, ← nar_eq] at HE
  have HA := Lib.hid ((LvAt.new w a0 a1 ha 26).keep (W := (w.alloc (.cells #[.int .i64 a0, .int .i64 a1, .bool ha] 26)).alloc (.cells #[.int .i64 b0, .int .i64 b1, .bool hb] 26)) ((Below.refl _ _).alloc (Nat.le_refl _) _))
  have HB := Lib.hid (LvAt.at_ (w.alloc (.cells #[.int .i64 a0, .int .i64 a1, .bool ha] 26)) (w.heap.size + 1) b0 b1 hb 26 (by simp))
  have HW : Hid (Below w.heap.size w ((w.alloc (.cells #[.int .i64 a0, .int .i64 a1, .bool ha] 26)).alloc (.cells #[.int .i64 b0, .int .i64 b1, .bool hb] 26))) := ((Below.refl _ _).alloc (Nat.le_refl _) _).alloc (by simp) _
  generalize nar a0 a1 ha b0 b1 hb = N at *
  generalize wi a0 a1 ha b0 b1 hb = R at *
  unfold lv
  go_enter Try.func25, Try.ntmps25
  go_wp2_with fail
  refine Stab.region 10 [.is (lv a0 a1 ha), .is (lv a0 a1 ha), .is (lv b0 b1 hb), .is N, .is (.bool R), .is (.bool R)] (by kernel_rfl) (by kernel_rfl) rfl rfl ?_ ?_
  · repeat' (first | exact Stab.steps_nil | with_reducible refine Stab.steps_cons ?_ ?_ ?_)
    all_goals first
      | exact trivial
      | exact Stab.owes_assign rfl rfl rfl
      | exact Stab.owes_load rfl (fun v W hb hv => by subst hv; exact (HA.out.keep hb).run) rfl
      | exact Stab.owes_load rfl (fun v W hb hv => by subst hv; exact (HB.out.keep hb).run) rfl
      | exact Stab.owes_bin rfl rfl rfl (fun W => HE.out _ _ W) rfl
      | (refine Stab.owes_call Try.func42 (by kernel_rfl) (by kernel_rfl) rfl (fun vs W hb hall => ?_) rfl; obtain ⟨_, _, rfl, rfl, _, _, rfl, rfl, rfl⟩ := hall; refine (HN.out W).mono ?_; rintro e w2 ⟨rfl, hb2⟩; exact ⟨_, rfl, hb2, rfl⟩)
  · intro W hb _
    simp only [Act.put, List.setIfInBounds_toArray, List.set_cons_succ, List.set_cons_zero]
    go_wp2
    go_ret
    exact ⟨rfl, HW.out.trans (hb.mono HW.out.size)⟩
end Go.Proofs.Ytnminpbnlcgblaa.Typ
