/- A slice of bytes that came in, as a row tells it: it reads as a list of bytes, and lies in memory that was there. -/
import Derived.Test.YtnminpbnlcgblaaLebLay
namespace Go.Proofs.Ytnminpbnlcgblaa.Leb
open Go.RowKit

/-- A slice of bytes that came in, as the row tells it. -/
def Came (k : IntKind) (w : World) (a : Option Addr) (len cap : Nat) (zs : List Int) : Prop :=
  (a = none ∧ len = 0 ∧ cap = 0 ∧ zs = []) ∨
  ∃ x, a = some x ∧ len ≤ cap ∧ cap ≤ maxLen ∧ zs.length = cap ∧ (∀ i, i < zs.length → w.cell? (x.add i) = some (.int k (zs.getD i 0))) ∧ ∀ n ∈ zs, (Lit.int k n).wf = true

theorem Came.byt {w : World} {a : Option Addr} {len cap : Nat} {zs : List Int} (h : Came .u8 w a len cap zs) :
    Byt w w.heap.size a (zs.take len) ∧ (zs.take len).length = len ∧ (∀ x ∈ zs.take len, 0 ≤ x ∧ x ≤ 255) ∧ len ≤ 9223372036854775807 := by
  rcases h with ⟨rfl, rfl, rfl, rfl⟩ | ⟨x, rfl, hl, hm, hz, hc, hw⟩
  · exact ⟨byt_nil _ _ _, rfl, by simp, by omega⟩
  · have hlen : (zs.take len).length = len := by rw [List.length_take]; omega
    unfold maxLen at hm
    refine ⟨fun h0 => ?_, hlen, fun y hy => bounds_u8 (hw y (List.mem_of_mem_take hy)), by omega⟩
    have h1 := hc 0 (by omega)
    refine ⟨x, rfl, ?_, fun j u hu => ?_⟩
    · have := World.block_lt_of_cell? w _ h1
      rwa [show (x.add 0).block = x.block from by unfold Addr.add; split <;> rfl] at this
    · have hj : j < len := by
        rcases Nat.lt_or_ge j len with h | h
        · exact h
        · rw [List.getElem?_eq_none (by rw [vb_length, hlen]; exact h)] at hu; cases hu
      rw [hc j (by omega)]
      rw [← hu]
      simp [vb, hj, show j < zs.length by omega]

end Go.Proofs.Ytnminpbnlcgblaa.Leb
