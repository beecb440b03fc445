/- The document's Sane, at all arguments. -/
import Derived.Test.YtmjimijolfjhmaaDoorInsSaneC
namespace Go.Proofs.YtmjimijolfjhmaaDoor.Ins
open Go.RowKit Ints Typ
set_option maxRecDepth 100000
set_option maxHeartbeats 1000000

/-- May an instruction be? -/
def saneI (x : Ins) : Bool :=
  if (kd x.op ≠ 4 ∧ 0 < x.L.length) ∨ (kd x.op ≠ 6 ∧ x.B ≠ 0) ∨ (kd x.op ≠ 8 ∧ kd x.op ≠ 9 ∧ x.K ≠ 0) then false
  else if kd x.op = 1 ∨ kd x.op = 7 ∨ kd x.op = 9 then x.A == 0
  else if kd x.op = 2 then x.A == 0 || x.A == 126 || x.A == 127
  else if kd x.op = 3 ∨ kd x.op = 5 then okN x.A
  else if kd x.op = 4 then okN x.A && x.L.all okN && decide ((x.L.length : Int) ≤ 64)
  else if kd x.op = 6 then okN x.A && okN x.B
  else if kd x.op = 8 then x.A == 0 && decide (x.K < 4294967296)
  else false
theorem rsane_any {x : Ins} {o : Value} {w : World} (hx : SlI w o x.L) : Calls Tryd.prog 19 #[iv x o] w fun en w' => en = .returned (.bool (saneI x)) ∧ Below w.heap.size w w' := by
  obtain ⟨P, c, ho, _⟩ := id hx
  subst ho
  have hr := kd_range x.op
  have hK : ∀ k : Int, kd x.op = k → ∀ W, Calls Tryd.prog 22 #[.int .i64 x.op] W fun en w' => en = .returned (.int .i64 k) ∧ Below W.heap.size W w' := fun k hk W => by
    have := rkind_any x.op W
    unfold KdTold at this
    rwa [hk] at this
  unfold iv
  by_cases hf : (kd x.op ≠ 4 ∧ 0 < x.L.length) ∨ (kd x.op ≠ 6 ∧ x.B ≠ 0) ∨ (kd x.op ≠ 8 ∧ kd x.op ≠ 9 ∧ x.K ≠ 0)
  · rw [show saneI x = false from if_pos hf]
    refine rsane_far x.op x.A x.B x.K (kd x.op) P x.L.length c w _ _ _ _ _ _ _ _ _ (hK _ rfl) rfl rfl rfl rfl rfl rfl rfl rfl rfl ?_
    simp only [bne_iff_ne, Bool.or_eq_true, Bool.and_eq_true, decide_eq_true_eq, ne_eq]
    omega
  · have hB : kd x.op ≠ 6 → (x.B != 0) = false := fun h => by simp; omega
    have hKK : kd x.op ≠ 8 → kd x.op ≠ 9 → (x.K != 0) = false := fun h h' => by simp; omega
    have hL : kd x.op ≠ 4 → x.L.length = 0 := fun h => by omega
    have hs : saneI x = (if kd x.op = 1 ∨ kd x.op = 7 ∨ kd x.op = 9 then x.A == 0 else if kd x.op = 2 then x.A == 0 || x.A == 126 || x.A == 127 else if kd x.op = 3 ∨ kd x.op = 5 then okN x.A else if kd x.op = 4 then okN x.A && x.L.all okN && decide ((x.L.length : Int) ≤ 64) else if kd x.op = 6 then okN x.A && okN x.B else if kd x.op = 8 then x.A == 0 && decide (x.K < 4294967296) else false) := if_neg hf
    rw [hs]
    clear hs hf
    have hk : kd x.op = 0 ∨ kd x.op = 1 ∨ kd x.op = 2 ∨ kd x.op = 3 ∨ kd x.op = 4 ∨ kd x.op = 5 ∨ kd x.op = 6 ∨ kd x.op = 7 ∨ kd x.op = 8 ∨ kd x.op = 9 := by omega
    rcases hk with hk | hk | hk | hk | hk | hk | hk | hk | hk | hk <;> rw [hk] at hB hKK hL ⊢
    · rw [hL (by decide)]
      exact rsane_0 _ _ _ _ P c w _ _ (hK 0 hk) rfl rfl (hB (by decide)) (hKK (by decide) (by decide))
    · rw [hL (by decide)]
      exact rsane_1 _ _ _ _ P c w _ _ _ (hK 1 hk) rfl rfl (hB (by decide)) (hKK (by decide) (by decide)) rfl
    · rw [hL (by decide)]
      exact rsane_2 _ _ _ _ P c w _ _ _ _ _ (hK 2 hk) rfl rfl (hB (by decide)) (hKK (by decide) (by decide)) rfl rfl rfl
    · rw [hL (by decide)]
      exact rsane_3 _ _ _ _ P c w _ _ (hK 3 hk) rfl rfl (hB (by decide)) (hKK (by decide) (by decide))
    · exact rsane_4 _ _ _ _ P _ c x.L w _ _ _ rfl hx (hK 4 hk) (hB (by decide)) (hKK (by decide) (by decide)) rfl rfl rfl
    · rw [hL (by decide)]
      exact rsane_5 _ _ _ _ P c w _ _ (hK 5 hk) rfl rfl (hB (by decide)) (hKK (by decide) (by decide))
    · rw [hL (by decide)]
      exact rsane_6 _ _ _ _ P c w _ _ _ _ (hK 6 hk) rfl rfl (hKK (by decide) (by decide)) rfl rfl
    · rw [hL (by decide)]
      exact rsane_7 _ _ _ _ P c w _ _ _ (hK 7 hk) rfl rfl (hB (by decide)) (hKK (by decide) (by decide)) rfl
    · rw [hL (by decide)]
      exact rsane_8 _ _ _ _ P c w _ _ _ _ (hK 8 hk) rfl rfl (hB (by decide)) rfl rfl
    · rw [hL (by decide)]
      exact rsane_9 _ _ _ _ P c w _ _ _ (hK 9 hk) rfl rfl (hB (by decide)) rfl
end Go.Proofs.YtmjimijolfjhmaaDoor.Ins
