/- Numbers of 32 digits in bytes: how great, how many bytes, cut short. Plain lists. -/
import Derived.Test.YtnminpbnlcgblaaTypFunc
namespace Go.Proofs.Ytnminpbnlcgblaa.Typ
open Go.RowKit Leb
set_option maxRecDepth 100000
set_option maxHeartbeats 1000000

theorem rdl32_step {acc lo : Nat} {c : Int} (h0 : 0 ≤ c) (hlo : lo = 0 ∨ lo = 7 ∨ lo = 14 ∨ lo = 21 ∨ lo = 28) (ha : acc < 2 ^ lo) : more acc lo c < 2 ^ (lo + 7) ∧ (32 ≤ lo + 7 → c < 2 ^ (32 - lo) → more acc lo c < 4294967296) := by
  have hu : ((c % 128).toNat : Int) = c % 128 := by omega
  generalize hU : (c % 128).toNat = u at *
  have hb : u < 128 := by omega
  rcases hlo with rfl | rfl | rfl | rfl | rfl <;> rw [more_small acc _ c u hu.symm (by omega)] <;> refine ⟨by omega, fun h1 h2 => by omega⟩
theorem rdl32_small : ∀ (l : List Int) (lo acc v m : Nat), (∀ x ∈ l, 0 ≤ x ∧ x < 256) → (lo = 0 ∨ lo = 7 ∨ lo = 14 ∨ lo = 21 ∨ lo = 28) → acc < 2 ^ lo → rdl fitU 32 l lo acc = .ok v m → v < 4294967296 ∧ ∃ j, m = 7 * (j + 1) ∧ j ≤ 4 ∧ v < 128 ^ (j + 1)
  | [], _, _, _, _, _, _, _, h => by cases h
  | c :: r, lo, acc, v, m, hx, hlo, ha, h => by
    have hc := hx c (by simp)
    obtain ⟨s1, s2⟩ := rdl32_step hc.1 hlo ha
    rw [rdl] at h
    split at h
    · cases h
    · rename_i hn
      split at h
      · injection h with h1 h2
        subst h1 h2
        rcases hlo with rfl | rfl | rfl | rfl | rfl
        · exact ⟨by omega, 0, by omega, by omega, by omega⟩
        · exact ⟨by omega, 1, by omega, by omega, by omega⟩
        · exact ⟨by omega, 2, by omega, by omega, by omega⟩
        · exact ⟨by omega, 3, by omega, by omega, by omega⟩
        · have hf : fitU c (32 - 28) = true := by
            cases hq : fitU c (32 - 28) with
            | true => rfl
            | false => exact absurd ⟨by omega, .inr hq⟩ hn
          refine ⟨s2 (by omega) (by unfold fitU at hf; simpa using hf), 4, by omega, by omega, by omega⟩
      · refine rdl32_small r (lo + 7) _ v m (fun x hx' => hx x (by simp [hx'])) ?_ s1 h
        have : ¬ 32 ≤ lo + 7 := fun h32 => hn ⟨h32, .inl (by omega)⟩
        omega
theorem rdl32 {l : List Int} {v m : Nat} (hx : ∀ x ∈ l, 0 ≤ x ∧ x < 256) (h : rdl fitU 32 l 0 0 = .ok v m) : v < 4294967296 ∧ lenU v ≤ m / 7 := by
  obtain ⟨h1, j, rfl, _, h2⟩ := rdl32_small l 0 0 v m hx (.inl rfl) (by simp) h
  exact ⟨h1, by have := lenU_le j v h2; omega⟩
theorem short32 {fit : Int → Nat → Bool} : ∀ (l : List Int) (lo acc : Nat), (∀ x ∈ l, 128 ≤ x) → lo + 7 * l.length ≤ 31 → rdl fit 32 l lo acc = .short
  | [], _, _, _, _ => rfl
  | c :: r, lo, acc, h, hl => by
    have hc := h c (by simp)
    rw [List.length_cons] at hl
    rw [rdl, if_neg (by omega), if_neg (by omega)]
    exact short32 r (lo + 7) _ (fun x hx => h x (by simp [hx])) (by omega)
theorem lenU_five {v : Nat} (h : v < 4294967296) : lenU v ≤ 5 := lenU_le 4 v (by omega)
/-- A number's bytes read back; a byte less is too short. -/
theorem back32 {v : Nat} (h : v < 4294967296) (tail : List Int) : rdl fitU 32 (uB v ++ tail) 0 0 = .ok v (7 * lenU v) := by
  rw [rdU_back 32 (by omega) tail v v 0 0 (Nat.le_refl _) (by omega) rfl (by simp), Nat.sub_zero, if_pos (by omega)]
  simp
theorem cut32 {v : Nat} (h : v < 4294967296) {m : Nat} (hm : m + 1 ≤ lenU v) : rdl fitU 32 ((uB v).take m) 0 0 = .short := by
  refine short32 _ 0 0 (uB_front v v m (Nat.le_refl _) hm) ?_
  have := lenU_five h
  rw [List.length_take]
  omega
end Go.Proofs.Ytnminpbnlcgblaa.Typ
