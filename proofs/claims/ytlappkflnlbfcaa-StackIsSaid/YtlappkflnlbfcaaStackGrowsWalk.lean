/- StackGrows: what is sane stays so: walked. -/
import Derived.Test.YtlappkflnlbfcaaStkPlain
namespace Go.Proofs.Ytlappkflnlbfcaa.Stk
open Go.RowKit Row9
set_option maxRecDepth 100000
set_option maxHeartbeats 4000000
set_option linter.unusedVariables false
def Yes (w : World) (e : Ending) (w' : World) : Prop := e = .returned (.bool true) ∧ Below w.heap.size w w'
theorem GrEnds.at_ {s : Stk} {w w' : World} {e : Ending} (h : GrEnds s w e w') : ∃ P n c Q m d, e = .returned (.agg #[.slice P n c, .slice Q m d]) ∧ StIs elP w' (.agg #[.slice P n c, .slice Q m d]) s ∧ Below w.heap.size w w' := by
  obtain ⟨⟨P, n, c, Q, m, d, h1, h2⟩, h3⟩ := h
  exact ⟨P, n, c, Q, m, d, h1, h2, h3⟩
/-- A stack as a value, its rows. -/
theorem StIs.rows {T : El CtV} {w : World} {P Q : Option Addr} {n c m d : Nat} {s : Stk} (h : StIs T w (.agg #[.slice P n c, .slice Q m d]) s) : ∃ l, Row elB w (.slice P n c) s.vals ∧ Row T w (.slice Q m d) l ∧ l.map (·.1) = s.cs ∧ s.vals.length = n ∧ l.length = m ∧ s.cs.length = m := by
  obtain ⟨a, c', l, e, h2, h3, h4⟩ := h
  simp only [Value.agg.injEq, Array.mk.injEq, List.cons.injEq, and_true] at e
  obtain ⟨rfl, rfl⟩ := e
  have e1 : s.vals.length = n := by
    obtain ⟨A, k, e, _⟩ := h2.form
    injection e with _ e
    exact e.symm
  have e2 : l.length = m := by
    obtain ⟨A, k, e, _⟩ := h3.form
    injection e with _ e
    exact e.symm
  exact ⟨l, h2, h3, h4, e1, e2, by rw [← h4, List.length_map, e2]⟩
end Go.Proofs.Ytlappkflnlbfcaa.Stk
