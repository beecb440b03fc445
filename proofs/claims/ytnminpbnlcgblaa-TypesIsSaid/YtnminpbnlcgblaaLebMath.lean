/- Plain facts on numbers written in bytes of seven digits of two: their lengths, their bytes, how they are read back. No Go in sight. -/
import Derived.WalkKit
namespace Go.Proofs.Ytnminpbnlcgblaa.Leb

/-- How many bytes a number that is not below 0 takes. -/
def lenU (v : Nat) : Nat := if _h : v < 128 then 1 else lenU (v / 128) + 1
termination_by v
decreasing_by omega

/-- How many bytes a number takes that may be below 0. -/
def lenS (v : Int) : Nat := if _h : -64 ≤ v ∧ v ≤ 63 then 1 else lenS (v / 128) + 1
termination_by v.natAbs
decreasing_by omega

theorem lenU_small {v : Nat} (h : v < 128) : lenU v = 1 := by rw [lenU, dif_pos h]
theorem lenU_great {v : Nat} (h : 128 ≤ v) : lenU v = lenU (v / 128) + 1 := by rw [lenU, dif_neg (by omega)]
theorem lenS_small {v : Int} (h : -64 ≤ v ∧ v ≤ 63) : lenS v = 1 := by rw [lenS, dif_pos h]
theorem lenS_great {v : Int} (h : ¬ (-64 ≤ v ∧ v ≤ 63)) : lenS v = lenS (v / 128) + 1 := by rw [lenS, dif_neg h]

theorem lenU_pos (v : Nat) : 1 ≤ lenU v := by rw [lenU]; split <;> omega
theorem lenS_pos (v : Int) : 1 ≤ lenS v := by rw [lenS]; split <;> omega

theorem lenU_le : ∀ (k : Nat) (v : Nat), v < 128 ^ (k + 1) → lenU v ≤ k + 1
  | 0, v, h => by rw [lenU_small (by simpa using h)]; omega
  | k + 1, v, h => by
    by_cases hs : v < 128
    · rw [lenU_small hs]; omega
    · rw [lenU_great (by omega)]
      have := lenU_le k (v / 128) (by rw [Nat.pow_succ] at h; exact Nat.div_lt_of_lt_mul (by rw [Nat.mul_comm]; exact h))
      omega

theorem lenS_le : ∀ (k : Nat) (v : Int), -(64 * 128 ^ k) ≤ v → v < 64 * 128 ^ k → lenS v ≤ k + 1
  | 0, v, h1, h2 => by rw [lenS_small (by simp at h1 h2; omega)]; omega
  | k + 1, v, h1, h2 => by
    by_cases hs : -64 ≤ v ∧ v ≤ 63
    · rw [lenS_small hs]; omega
    · rw [lenS_great hs]
      rw [Int.pow_succ] at h1 h2
      have := lenS_le k (v / 128)
      generalize (128 : Int) ^ k = p at h1 h2 this
      have := this (by omega) (by omega)
      omega

theorem lenU_ten {v : Nat} (h : v < 18446744073709551616) : lenU v ≤ 10 := lenU_le 9 v (by omega)
theorem lenS_ten {v : Int} (h1 : -9223372036854775808 ≤ v) (h2 : v ≤ 9223372036854775807) : lenS v ≤ 10 := lenS_le 9 v (by omega) (by omega)

theorem lenU_mono : ∀ (n a b : Nat), b ≤ n → a ≤ b → lenU a ≤ lenU b
  | 0, a, b, hn, h => by obtain rfl : a = b := by omega
                         exact Nat.le_refl _
  | n + 1, a, b, hn, h => by
    by_cases ha : a < 128
    · rw [lenU_small ha]; exact lenU_pos b
    · rw [lenU_great (v := a) (by omega), lenU_great (v := b) (by omega)]
      have := lenU_mono n (a / 128) (b / 128) (by omega) (by omega)
      omega

theorem lenS_neg : ∀ (n : Nat) (s : Int), s.natAbs ≤ n → lenS (-1 - s) = lenS s
  | 0, s, h => by rw [lenS_small (v := s) (by omega), lenS_small (by omega)]
  | n + 1, s, h => by
    by_cases hs : -64 ≤ s ∧ s ≤ 63
    · rw [lenS_small hs, lenS_small (by omega)]
    · rw [lenS_great hs, lenS_great (by omega), show (-1 - s) / 128 = -1 - s / 128 from by omega]
      by_cases hz : s.natAbs = n + 1
      · rw [lenS_neg n (s / 128) (by omega)]
      · rw [lenS_neg n (s / 128) (by omega)]

theorem lenS_lenU : ∀ (n s : Nat), s ≤ n → lenU s ≤ lenS s ∧ lenS s ≤ lenU s + 1
  | 0, s, h => by obtain rfl : s = 0 := by omega
                  rw [lenU_small (by omega), lenS_small (by omega)]; omega
  | n + 1, s, h => by
    by_cases h1 : s < 64
    · rw [lenU_small (by omega), lenS_small (by omega)]; omega
    · by_cases h2 : s < 128
      · rw [lenU_small h2, lenS_great (by omega), lenS_small (by omega)]; omega
      · rw [lenU_great (by omega), lenS_great (by omega)]
        have := lenS_lenU n (s / 128) (by omega)
        rw [show ((s : Int) / 128) = ((s / 128 : Nat) : Int) from by omega]
        omega

/-- The bytes of a number that is not below 0. -/
def uB (v : Nat) : List Int := if _h : v < 128 then [(v : Int)] else ((v : Int) % 128 + 128) :: uB (v / 128)
termination_by v
decreasing_by omega

/-- The bytes of a number that may be below 0. -/
def sB (v : Int) : List Int := if _h : -64 ≤ v ∧ v ≤ 63 then [v % 128] else (v % 128 + 128) :: sB (v / 128)
termination_by v.natAbs
decreasing_by omega

theorem uB_small {v : Nat} (h : v < 128) : uB v = [(v : Int)] := by rw [uB, dif_pos h]
theorem uB_great {v : Nat} (h : 128 ≤ v) : uB v = ((v : Int) % 128 + 128) :: uB (v / 128) := by rw [uB, dif_neg (by omega)]
theorem sB_small {v : Int} (h : -64 ≤ v ∧ v ≤ 63) : sB v = [v % 128] := by rw [sB, dif_pos h]
theorem sB_great {v : Int} (h : ¬ (-64 ≤ v ∧ v ≤ 63)) : sB v = (v % 128 + 128) :: sB (v / 128) := by rw [sB, dif_neg h]

theorem uB_length : ∀ (n v : Nat), v ≤ n → (uB v).length = lenU v
  | 0, v, h => by rw [uB_small (by omega), lenU_small (by omega)]; rfl
  | n + 1, v, h => by
    by_cases hs : v < 128
    · rw [uB_small hs, lenU_small hs]; rfl
    · rw [uB_great (by omega), lenU_great (by omega), List.length_cons, uB_length n (v / 128) (by omega)]
theorem uB_len (v : Nat) : (uB v).length = lenU v := uB_length v v (Nat.le_refl _)

theorem sB_length : ∀ (n : Nat) (v : Int), v.natAbs ≤ n → (sB v).length = lenS v
  | 0, v, h => by rw [sB_small (by omega), lenS_small (by omega)]; rfl
  | n + 1, v, h => by
    by_cases hs : -64 ≤ v ∧ v ≤ 63
    · rw [sB_small hs, lenS_small hs]; rfl
    · rw [sB_great hs, lenS_great hs, List.length_cons, sB_length n (v / 128) (by omega)]
theorem sB_len (v : Int) : (sB v).length = lenS v := sB_length _ v (Nat.le_refl _)

theorem uB_one : ∀ (n v : Nat), v ≤ n → ∀ x ∈ uB v, 0 ≤ x ∧ x ≤ 255
  | 0, v, h => by rw [uB_small (by omega)]; simp; omega
  | n + 1, v, h => by
    by_cases hs : v < 128
    · rw [uB_small hs]; simp; omega
    · rw [uB_great (by omega)]
      intro x hx
      rcases List.mem_cons.1 hx with rfl | hx
      · omega
      · exact uB_one n (v / 128) (by omega) x hx
theorem sB_one : ∀ (n : Nat) (v : Int), v.natAbs ≤ n → ∀ x ∈ sB v, 0 ≤ x ∧ x ≤ 255
  | 0, v, h => by rw [sB_small (by omega)]; simp; omega
  | n + 1, v, h => by
    by_cases hs : -64 ≤ v ∧ v ≤ 63
    · rw [sB_small hs]; simp; omega
    · rw [sB_great hs]
      intro x hx
      rcases List.mem_cons.1 hx with rfl | hx
      · omega
      · exact sB_one n (v / 128) (by omega) x hx

end Go.Proofs.Ytnminpbnlcgblaa.Leb
