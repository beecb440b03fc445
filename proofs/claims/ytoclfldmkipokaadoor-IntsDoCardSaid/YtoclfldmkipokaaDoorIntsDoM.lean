/- The document's digits and the program's numbers are one: shifts, turns, counts. -/
import Derived.Test.YtoclfldmkipokaaDoorIntsShift
import Derived.Test.YtoclfldmkipokaaDoorIntsDiv
namespace Go.Proofs.YtoclfldmkipokaaDoor.Ints
open Go.RowKit
set_option maxRecDepth 100000

theorem dig_bit (v i : Nat) : dig v i = if v.testBit i then 1 else 0 := by
  unfold dig
  rw [Nat.testBit_eq_decide_div_mod_eq]
  by_cases h : v / 2 ^ i % 2 = 1
  · simp [h]
  · have : v / 2 ^ i % 2 = 0 := by omega
    simp [this]
theorem tn_congr (f g : Nat → Nat) : ∀ n, (∀ i, i < n → f i = g i) → tnR f n = tnR g n
  | 0, _ => rfl
  | n + 1, h => by
    show tnR f n + f n * 2 ^ n = tnR g n + g n * 2 ^ n
    rw [tn_congr f g n (fun i hi => h i (by omega)), h n (by omega)]
theorem tn_dig (N : Nat) : ∀ n, tnR (dig N) n = N % 2 ^ n
  | 0 => by simp [tnR, Nat.mod_one]
  | n + 1 => by
    show tnR (dig N) n + dig N n * 2 ^ n = _
    rw [tn_dig N n, Nat.mod_pow_succ]
    unfold dig
    rw [Nat.mul_comm]
theorem tn_eq (f : Nat → Nat) (N n : Nat) (h : ∀ i, i < n → f i = dig N i) (hN : N < 2 ^ n) : tnR f n = N := by
  rw [tn_congr f (dig N) n h, tn_dig, Nat.mod_eq_of_lt hN]
theorem bit_big {X W i : Nat} (hX : X < 2 ^ W) (h : W ≤ i) : X.testBit i = false :=
  Nat.testBit_lt_two_pow (Nat.lt_of_lt_of_le hX (Nat.pow_le_pow_right (by omega) h))
theorem bit_shl (X k i : Nat) : (X * 2 ^ k).testBit i = (decide (k ≤ i) && X.testBit (i - k)) := by
  rw [← Nat.shiftLeft_eq, Nat.testBit_shiftLeft]
theorem tn_shl (X k W : Nat) : tnR (fShl X k) W = X * 2 ^ k % 2 ^ W := by
  refine tn_eq _ _ _ (fun i hi => ?_) (Nat.mod_lt _ (Nat.pow_pos (by omega)))
  rw [dig_bit, Nat.testBit_mod_two_pow, bit_shl]
  unfold fShl
  by_cases h : k ≤ i
  · rw [if_pos h, dig_bit]; simp [hi, h]
  · rw [if_neg h]; simp [h]
theorem tn_shru (X k W : Nat) (hX : X < 2 ^ W) : tnR (fShrU X k W) W = X / 2 ^ k := by
  refine tn_eq _ _ _ (fun i hi => ?_) (Nat.lt_of_le_of_lt (Nat.div_le_self _ _) hX)
  rw [dig_bit, Nat.testBit_div_two_pow]
  unfold fShrU
  by_cases h : i + k < W
  · rw [if_pos h, dig_bit, Nat.add_comm]
  · rw [if_neg h, Nat.add_comm, bit_big hX (by omega)]; rfl
theorem tn_rotl (X k W : Nat) (hk : k < W) (hX : X < 2 ^ W) : tnR (fRotl X k W) W = rlN W k X := by
  refine tn_eq _ _ _ (fun i hi => ?_) (rl_lt W k X hX)
  unfold rlN
  rw [dig_bit, Nat.testBit_or, Nat.testBit_mod_two_pow, bit_shl, Nat.testBit_div_two_pow]
  unfold fRotl
  by_cases h : k ≤ i
  · rw [if_pos h, dig_bit, bit_big hX (show W ≤ i + (W - k) by omega)]; simp [hi, h]
  · rw [if_neg h, dig_bit, show i + W - k = i + (W - k) from by omega]; simp [h]
theorem tn_rotr (X k W : Nat) (hk : k < W) (hX : X < 2 ^ W) : tnR (fRotr X k W) W = rrN W k X := by
  refine tn_eq _ _ _ (fun i hi => ?_) (rr_lt W k X hX)
  unfold rrN
  rw [dig_bit, Nat.testBit_or, Nat.testBit_mod_two_pow, bit_shl, Nat.testBit_div_two_pow]
  unfold fRotr
  by_cases h : i + k < W
  · rw [if_pos h, dig_bit]
    have h2 : ¬ (W - k ≤ i) := by omega
    simp [h2]
  · rw [if_neg h, dig_bit, bit_big hX (show W ≤ i + k by omega)]
    have h2 : W - k ≤ i := by omega
    rw [show i + k - W = i - (W - k) from by omega]
    simp [hi, h2]
/-- Shifted with the sign. -/
theorem tn_shrs (X k W : Nat) (hk : k < W) (hX : X < 2 ^ W) : tnR (fShrS X k W) W = if 2 ^ (W - 1) ≤ X then 2 ^ (W - k) * (2 ^ k - 1) + X / 2 ^ k else X / 2 ^ k := by
  have hd : X / 2 ^ k < 2 ^ (W - k) := by
    rw [Nat.div_lt_iff_lt_mul (Nat.pow_pos (by omega)), ← Nat.pow_add, show W - k + k = W from by omega]
    exact hX
  have hp : 2 ^ W = 2 ^ (W - k) * 2 ^ k := by rw [← Nat.pow_add, show W - k + k = W from by omega]
  have hk0 : 0 < 2 ^ k := Nat.pow_pos (by omega)
  have htop : dig X (W - 1) = if 2 ^ (W - 1) ≤ X then 1 else 0 := by
    unfold dig
    have h2 : 2 ^ W = 2 ^ (W - 1) * 2 := by rw [← Nat.pow_succ, show (W - 1).succ = W from by omega]
    have hw0 : 0 < 2 ^ (W - 1) := Nat.pow_pos (by omega)
    split
    · rename_i h
      have e : X / 2 ^ (W - 1) = 1 := by
        apply Nat.div_eq_of_lt_le
        · omega
        · omega
      rw [e]
    · rename_i h
      rw [Nat.div_eq_of_lt (by omega)]
  by_cases hs : 2 ^ (W - 1) ≤ X
  · rw [if_pos hs]
    rw [if_pos hs] at htop
    refine tn_eq _ _ _ (fun i hi => ?_) ?_
    · unfold fShrS
      by_cases h : i + k < W
      · rw [if_pos h, dig_low (W - k) _ _ i (by omega), dig_bit, dig_bit, Nat.testBit_div_two_pow, Nat.add_comm]
      · rw [if_neg h, htop]
        obtain ⟨m, rfl⟩ : ∃ m, i = (W - k) + m := ⟨i - (W - k), by omega⟩
        rw [dig_high (W - k) _ _ m hd, dig_bit, Nat.testBit_two_pow_sub_one]
        have : m < k := by omega
        simp [this]
    · have : 2 ^ (W - k) * (2 ^ k - 1) + 2 ^ (W - k) = 2 ^ W := by
        rw [hp, Nat.mul_sub, Nat.mul_one]
        have : 2 ^ (W - k) ≤ 2 ^ (W - k) * 2 ^ k := Nat.le_mul_of_pos_right _ hk0
        omega
      omega
  · rw [if_neg hs]
    rw [if_neg hs] at htop
    refine tn_eq _ _ _ (fun i hi => ?_) (Nat.lt_of_le_of_lt (Nat.div_le_self _ _) hX)
    unfold fShrS
    by_cases h : i + k < W
    · rw [if_pos h, dig_bit, dig_bit, Nat.testBit_div_two_pow, Nat.add_comm]
    · rw [if_neg h, htop, dig_bit, Nat.testBit_div_two_pow, Nat.add_comm, bit_big hX (by omega)]; rfl
/-- Zeros at the top. -/
theorem clz_len (X : Nat) (h64 : X < 2 ^ 64) : ∀ n, X < 2 ^ n → n ≤ 64 → clzR X n = n - Lib.bitLen X
  | 0, h, _ => by
    obtain rfl : X = 0 := by simpa using h
    rfl
  | n + 1, h, hn => by
    rw [clzR]
    have hp : 0 < 2 ^ n := Nat.pow_pos (by omega)
    by_cases hx : X < 2 ^ n
    · have e : dig X n = 0 := by unfold dig; rw [Nat.div_eq_of_lt hx]
      rw [if_pos e, clz_len X h64 n hx (by omega)]
      have := Lib.bitLen_le X n (by omega) hx
      omega
    · have e : dig X n ≠ 0 := by
        unfold dig
        have : X / 2 ^ n = 1 := by
          apply Nat.div_eq_of_lt_le
          · omega
          · rw [Nat.pow_succ] at h; omega
        rw [this]; decide
      rw [if_neg e]
      obtain ⟨h1, h2, h3⟩ := Lib.bitLenAux_bounds 64 X h64 (by omega)
      have : n < Lib.bitLenAux 64 X := by
        rcases Nat.lt_or_ge n (Lib.bitLenAux 64 X) with h | h
        · exact h
        · have := Nat.pow_le_pow_right (n := 2) (by omega) h
          omega
      show 0 = n + 1 - Lib.bitLenAux 64 X
      omega
/-- Zeros at the bottom. -/
theorem ctz_zero : ∀ n i, ctzR 0 i n = n
  | 0, _ => rfl
  | n + 1, i => by
    rw [ctzR, if_pos (by simp [dig]), ctz_zero n (i + 1)]
theorem ctz_at (X c m : Nat) (h : X = 2 ^ c * (2 * m + 1)) : ∀ n i, i ≤ c → ctzR X i n = if c < i + n then c - i else n
  | 0, i, hi => by
    rw [if_neg (by omega)]
    rfl
  | n + 1, i, hi => by
    rw [ctzR]
    by_cases e : i = c
    · subst e
      have hd : dig X i ≠ 0 := by
        unfold dig
        rw [h, Nat.mul_div_cancel_left _ (Nat.pow_pos (by omega))]
        omega
      rw [if_neg hd, if_pos (by omega)]
      omega
    · have hd : dig X i = 0 := by
        have := dig_low c (2 * m + 1) 0 i (by omega)
        rw [Nat.add_zero, ← h] at this
        rw [this]
        simp [dig]
      rw [if_pos hd, ctz_at X c m h n (i + 1) (by omega)]
      by_cases hc : c < i + (n + 1)
      · rw [if_pos (by omega), if_pos hc]; omega
      · rw [if_neg (by omega), if_neg hc]
theorem ctz_eq (X W : Nat) (h64 : X < 2 ^ 64) (hW : W ≤ 64) : (ctzR X 0 W : Int) = if (W : Int) ≤ (Lib.ctz 64 X : Int) then (W : Int) else (Lib.ctz 64 X : Int) := by
  by_cases h0 : X = 0
  · subst h0
    rw [ctz_zero, show Lib.ctz 64 0 = 64 from rfl, if_pos (by omega)]
  · obtain ⟨m, hm, hc⟩ := Lib.ctzFrom_spec 64 X (by omega) h64
    rw [show Lib.ctz 64 X = Lib.ctzFrom 64 X from if_neg h0, ctz_at X _ m hm W 0 (by omega)]
    generalize Lib.ctzFrom 64 X = c at *
    by_cases h : c < 0 + W
    · rw [if_pos h, if_neg (by omega)]; omega
    · rw [if_neg h, if_pos (by omega)]
end Go.Proofs.YtoclfldmkipokaaDoor.Ints
