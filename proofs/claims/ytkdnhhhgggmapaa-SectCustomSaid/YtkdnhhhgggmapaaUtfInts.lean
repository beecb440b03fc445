/- The document's 'are numbers the same', walked; what Runes and Valid tell, in one word; a text of no bytes. -/
import Derived.Test.YtkdnhhhgggmapaaUtfRunes
import Derived.Deep.QuietTactic
import Derived.BigQuiet
namespace Go.Proofs.Ytkdnhhhgggmapaa.Utf
open Go.RowKit
set_option maxRecDepth 100000
set_option maxHeartbeats 400000

theorem ret_bool {a b : Bool} (h : a = b) : Ending.returned (.bool a) = .returned (.bool b) := by rw [h]
/-- The world as it was, but for what was drawn. -/
def Still (W w' : World) : Prop := ∃ n, w' = W.drewN n
theorem Still.same {W : World} : Still W W := ⟨0, rfl⟩
theorem Still.more {W w' : World} (h : Still W w') (n : Nat) : Still W (w'.drewN n) := by
  obtain ⟨m, rfl⟩ := h
  exact ⟨m + n, by rw [World.drewN_drewN]⟩
theorem Still.cell {W w' : World} (h : Still W w') (p : Addr) : w'.cell? p = W.cell? p := by
  obtain ⟨m, rfl⟩ := h
  simp
theorem Still.below {w w' : World} (h : Still w w') : Below w.heap.size w w' := by
  obtain ⟨n, rfl⟩ := h
  exact ⟨rfl, rfl, rfl, Nat.le_refl _, fun _ _ => rfl⟩
/-- Whole numbers at an address. -/
def IntAt (w : World) (g off : Nat) (l : List Int) : Prop := ∀ j, j < l.length → w.cell? ⟨g, off + j, none⟩ = some (.int .i64 (l.getD j 0))
theorem eq_of_getD {a b : List Int} (hl : a.length = b.length) (h : ∀ j, j < a.length → a.getD j 0 = b.getD j 0) : a = b := by
  apply List.ext_getElem hl
  intro i h1 h2
  have := h i h1
  simpa [h1, h2] using this
end Go.Proofs.Ytkdnhhhgggmapaa.Utf
