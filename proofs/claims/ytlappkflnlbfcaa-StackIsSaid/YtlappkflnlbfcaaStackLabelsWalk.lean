/- StackLabels: as many labels as are open: walked. -/
import Derived.Test.YtlappkflnlbfcaaStackGrowsWalk
import Derived.Laws.Bits128
namespace Go.Proofs.Ytlappkflnlbfcaa.Stk
open Go.RowKit Row9
set_option maxRecDepth 100000
set_option maxHeartbeats 4000000
set_option linter.unusedVariables false
theorem i64_and5 (n : Int) : bits .and .i64 n 31 = n % 32 := by
  have h : (BitVec.ofInt 64 31).toNat = 2 ^ 5 - 1 := by decide
  have key : (BitVec.ofInt 64 n &&& BitVec.ofInt 64 31).toNat = (n % ((2 ^ 64 : Nat) : Int)).toNat % 2 ^ 5 := by
    rw [BitVec.toNat_and, BitVec.toNat_ofInt, h, Nat.and_two_pow_sub_one_eq_mod]
  show IntKind.i64.wrap ((BitVec.ofInt 64 n &&& BitVec.ofInt 64 31).toNat : Nat) = n % 32
  rw [key, IntKind.wrap_i64]
  omega
theorem Label_st {v : Value} {s : Stk} {n : Int} {w : World} (h : StIs elP w v s) (hn : w64 n) (h2 : s.cs.length ≤ 400000) (hs : sane s = true) : Calls Try.prog 21 #[v, .int .i64 n] w (LabTold (labelS s n) w) := by
  obtain ⟨a, c, l, rfl, ha, hc, hl⟩ := h
  obtain ⟨vals, cs⟩ := s
  subst hl
  exact Label_any ha hc hn (by simpa using h2) (fun p hp => by
    have := mayE_len ((sane_facts hs).1 p.1 (List.mem_map_of_mem hp)).2.2
    omega)
theorem LabTold.of {r : List Int × Int} {w w' : World} {e : Ending} (h : LabTold r w e w') : ∃ P n c, e = .returned (.tuple #[.slice P n c, .int .i64 r.2]) ∧ Row elB w' (.slice P n c) r.1 ∧ r.1.length = n ∧ Below w.heap.size w w' := by
  obtain ⟨⟨v, rfl, hv⟩, hb⟩ := h
  obtain ⟨P, c, rfl, _⟩ := hv.form
  exact ⟨P, _, c, rfl, hv, rfl, hb⟩
end Go.Proofs.Ytlappkflnlbfcaa.Stk
