/- StackDead: what is never come to gives whatever is wanted: walked. -/
import Derived.Test.YtlappkflnlbfcaaStackLabelsWalk
namespace Go.Proofs.Ytlappkflnlbfcaa.Stk
open Go.RowKit Row9
set_option maxRecDepth 100000
set_option maxHeartbeats 8000000
set_option linter.unusedVariables false
theorem cells2 {w : World} {x : Nat} {a b : Value} {t : TypeId} (h : w.heap[x]? = some (.cells #[a, b] t (0, 0))) : w.cell? ⟨x, 0, none⟩ = some a ∧ w.cell? ⟨x, 1, none⟩ = some b := ⟨(cells_at h 0).1, (cells_at h 1).1⟩
theorem cells4 {w : World} {x : Nat} {a b c d : Value} {t : TypeId} (h : w.heap[x]? = some (.cells #[a, b, c, d] t (0, 0))) : w.cell? ⟨x, 0, none⟩ = some a ∧ w.cell? ⟨x, 1, none⟩ = some b ∧ w.cell? ⟨x, 2, none⟩ = some c ∧ w.cell? ⟨x, 3, none⟩ = some d := ⟨(cells_at h 0).1, (cells_at h 1).1, (cells_at h 2).1, (cells_at h 3).1⟩
theorem undef_ne (b : Bool) : ¬ (some undef = some (Value.bool b)) := by intro h; cases h
theorem last_cases (cs : List Ctl) : cs = [] ∨ ∃ q c, cs = q ++ [c] := by
  cases h : cs.getLast? with
  | none => exact .inl (List.getLast?_eq_none_iff.1 h)
  | some c =>
    obtain ⟨q, hq⟩ : ∃ q, cs = q ++ [c] := List.getLast?_eq_some_iff.1 h
    exact .inr ⟨q, c, hq⟩
end Go.Proofs.Ytlappkflnlbfcaa.Stk
