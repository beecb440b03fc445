/- Splitting, by the document, at all bytes. -/
import Derived.Test.YtkdnhhhgggmapaaSecSplitB
namespace Go.Proofs.Ytkdnhhhgggmapaa.Sec
open Go.RowKit Utf
theorem rsplit_any {v : Value} {b : List Int} {w : World} (hs : Sl w v b) (hb : ∀ x ∈ b, 0 ≤ x ∧ x < 256) : Calls Try.prog 12 #[v] w (STold (split7 b) w) := by
  obtain ⟨A, c, h1, h2, h3, h4⟩ := id hs
  subst h1
  by_cases hq : 65536 < b.length ∨ b.length < 8
  · exact rsplit_no rfl hs hb hq
  · have hne : b ≠ [] := fun e => hq (.inr (by rw [e]; decide))
    obtain ⟨g, off, rfl, _⟩ := h4 hne
    by_cases hh : b.take 8 = hd8
    · exact rsplit_go rfl hs hb (by omega) (by omega) h2 h3 hh
    · exact rsplit_head rfl hs hb (by omega) (by omega) h2 hh
/-- What is told has few bytes, each a byte. -/
theorem spl_sane : ∀ (f : Nat) (b : List Int) (k : Nat) (last : Int) (out : List Sct), (∀ x ∈ b, 0 ≤ x ∧ x < 256) → (∀ q ∈ out, ∀ x ∈ q.2, 0 ≤ x ∧ x < 256) → ∀ q ∈ (spl b f k last out).1, ∀ x ∈ q.2, 0 ≤ x ∧ x < 256
  | 0, _, _, _, _, _, _ => by intro q hq; simp [spl] at hq
  | f + 1, b, k, last, out, hb, ho => by
    have hd : ∀ p v, ∀ x ∈ (b.drop p).take v, 0 ≤ x ∧ x < 256 := fun p v x hx => hb x (List.mem_of_mem_drop (List.mem_of_mem_take hx))
    have hn : ∀ (i : Int) p v, ∀ q ∈ out ++ [(i, (b.drop p).take v)], ∀ x ∈ q.2, 0 ≤ x ∧ x < 256 := by
      intro i p v q hq
      rcases List.mem_append.1 hq with hq | hq
      · exact ho q hq
      · rw [List.mem_singleton.1 hq]; exact hd p v
    rw [spl]
    split
    · exact ho
    · split
      · intro q hq; cases hq
      · split
        · intro q hq; cases hq
        · intro q hq; cases hq
        · split
          · intro q hq; cases hq
          · split
            · split
              · intro q hq; cases hq
              · exact spl_sane f b _ _ _ hb (hn _ _ _)
            · split
              · intro q hq; cases hq
              · exact spl_sane f b _ _ _ hb (hn _ _ _)
end Go.Proofs.Ytkdnhhhgggmapaa.Sec
