/- Digits, turns and counts: plain numbers. -/
import Derived.Test.YtoclfldmkipokaaDoorIntsPure
import Derived.Lib.ItoaNum
namespace Go.Proofs.YtoclfldmkipokaaDoor.Ints
open Go.RowKit
set_option maxRecDepth 100000

theorem dig_low (j h l i : Nat) (hi : i < j) : dig (2 ^ j * h + l) i = dig l i := by
  unfold dig
  obtain ⟨d, rfl⟩ : ∃ d, j = i + (d + 1) := ⟨j - i - 1, by omega⟩
  rw [show 2 ^ (i + (d + 1)) * h + l = 2 ^ i * (2 * (2 ^ d * h)) + l from by rw [Nat.pow_add, Nat.pow_succ]; simp [Nat.mul_comm, Nat.mul_left_comm], Nat.mul_add_div (Nat.pow_pos (by omega))]
  omega
theorem dig_high (j h l m : Nat) (hl : l < 2 ^ j) : dig (2 ^ j * h + l) (j + m) = dig h m := by
  unfold dig
  rw [Nat.pow_add, ← Nat.div_div_eq_div_mul, Nat.mul_add_div (Nat.pow_pos (by omega)), Nat.div_eq_of_lt hl, Nat.add_zero]
theorem popR_low (j h l : Nat) : ∀ i, i ≤ j → popR (2 ^ j * h + l) i = popR l i
  | 0, _ => rfl
  | i + 1, hi => by
    show popR _ i + dig _ i = popR _ i + dig _ i
    rw [popR_low j h l i (by omega), dig_low j h l i (by omega)]
theorem popR_cat (j h l : Nat) (hl : l < 2 ^ j) : ∀ m, popR (2 ^ j * h + l) (j + m) = popR l j + popR h m
  | 0 => popR_low j h l j (Nat.le_refl _)
  | m + 1 => by
    show popR _ (j + m) + dig _ (j + m) = popR l j + (popR h m + dig h m)
    rw [popR_cat j h l hl m, dig_high j h l m hl, Nat.add_assoc]
theorem popR_zero : ∀ m, popR 0 m = 0
  | 0 => rfl
  | m + 1 => by
    show popR 0 m + dig 0 m = 0
    rw [popR_zero m]; simp [dig]
theorem popR_top (A L m : Nat) (h : A < 2 ^ L) : popR A (L + m) = popR A L := by
  have := popR_cat L 0 A h m
  rw [Nat.mul_zero, Nat.zero_add, popR_zero] at this
  exact this
theorem popR_ge (v : Nat) : ∀ n i, i < n → dig v i ≤ popR v n
  | 0, _, h => by omega
  | n + 1, i, h => by
    show dig v i ≤ popR v n + dig v n
    by_cases e : i = n
    · subst e; omega
    · have := popR_ge v n i (by omega); omega
/-- Turned left, turned right. -/
def rlN (W k X : Nat) : Nat := X * 2 ^ k % 2 ^ W ||| X / 2 ^ (W - k)
def rrN (W k X : Nat) : Nat := X / 2 ^ k ||| X * 2 ^ (W - k) % 2 ^ W
theorem shl_part (W k X : Nat) (hk : k ≤ W) : X * 2 ^ k % 2 ^ W = 2 ^ k * (X % 2 ^ (W - k)) := by
  conv => lhs; rw [show W = k + (W - k) from by omega, Nat.pow_add, Nat.mul_comm X]
  exact Nat.mul_mod_mul_left _ _ _
theorem div_part (W k X : Nat) (hk : k ≤ W) (hX : X < 2 ^ W) : X / 2 ^ (W - k) < 2 ^ k := by
  rw [Nat.div_lt_iff_lt_mul (Nat.pow_pos (by omega)), ← Nat.pow_add, show k + (W - k) = W from by omega]
  exact hX
theorem rl_eq (W k X : Nat) (hk : k ≤ W) (hX : X < 2 ^ W) : rlN W k X = 2 ^ k * (X % 2 ^ (W - k)) + X / 2 ^ (W - k) := by
  unfold rlN
  rw [shl_part W k X hk]
  exact (Nat.two_pow_add_eq_or_of_lt (div_part W k X hk hX) _).symm
theorem rr_eq (W k X : Nat) (hk : k ≤ W) (hX : X < 2 ^ W) : rrN W k X = 2 ^ (W - k) * (X % 2 ^ k) + X / 2 ^ k := by
  have h := rl_eq W (W - k) X (by omega) hX
  unfold rlN at h
  unfold rrN
  rw [show W - (W - k) = k from by omega] at h
  rw [Nat.or_comm]
  exact h
theorem rl_lt (W k X : Nat) (hX : X < 2 ^ W) : rlN W k X < 2 ^ W :=
  Nat.or_lt_two_pow (Nat.mod_lt _ (Nat.pow_pos (by omega))) (Nat.lt_of_le_of_lt (Nat.div_le_self _ _) hX)
theorem rr_lt (W k X : Nat) (hX : X < 2 ^ W) : rrN W k X < 2 ^ W :=
  Nat.or_lt_two_pow (Nat.lt_of_le_of_lt (Nat.div_le_self _ _) hX) (Nat.mod_lt _ (Nat.pow_pos (by omega)))
theorem rot_back (W k X : Nat) (hk : k ≤ W) (hX : X < 2 ^ W) : rrN W k (rlN W k X) = X := by
  rw [rr_eq W k _ hk (rl_lt W k X hX), rl_eq W k X hk hX]
  have hp : 0 < 2 ^ k := Nat.pow_pos (by omega)
  have hd := div_part W k X hk hX
  rw [Nat.mul_add_mod, Nat.mod_eq_of_lt hd, Nat.mul_add_div hp, Nat.div_eq_of_lt hd, Nat.add_zero]
  exact Nat.div_add_mod X (2 ^ (W - k))
theorem rot_pop (W k X : Nat) (hk : k ≤ W) (hX : X < 2 ^ W) : popR (rlN W k X) W = popR X W := by
  rw [rl_eq W k X hk hX]
  have h1 := popR_cat k (X % 2 ^ (W - k)) (X / 2 ^ (W - k)) (div_part W k X hk hX) (W - k)
  have h2 := popR_cat (W - k) (X / 2 ^ (W - k)) (X % 2 ^ (W - k)) (Nat.mod_lt _ (Nat.pow_pos (by omega))) k
  rw [Nat.div_add_mod] at h2
  rw [show k + (W - k) = W from by omega] at h1
  rw [show W - k + k = W from by omega] at h2
  omega
theorem pow2_all : ∀ k : Fin 64, Lib.ctz 64 (2 ^ k.val) = k.val ∧ Lib.bitLen (2 ^ k.val) = k.val + 1 ∧ popR (2 ^ k.val) 64 = 1 := by decide +kernel
/-- Zeros at the top, at the bottom, and ones: no more than digits. -/
theorem count_le (A : Nat) (hA : A < 18446744073709551616) (h0 : A ≠ 0) : Lib.ctz 64 A + popR A 64 ≤ Lib.bitLen A ∧ 1 ≤ popR A 64 ∧ Lib.ctz 64 A < Lib.bitLen A := by
  obtain ⟨hL1, hlo, hhi⟩ := Lib.bitLenAux_bounds 64 A hA h0
  have hle : Lib.bitLenAux 64 A ≤ 64 := Lib.bitLen_le A 64 (Nat.le_refl _) hA
  obtain ⟨m, hm, hc⟩ := Lib.ctzFrom_spec 64 A (by omega) hA
  have e1 : Lib.ctz 64 A = Lib.ctzFrom 64 A := if_neg h0
  have e2 : Lib.bitLen A = Lib.bitLenAux 64 A := rfl
  rw [e1, e2]
  generalize Lib.bitLenAux 64 A = L at *
  generalize Lib.ctzFrom 64 A = c at *
  clear e1 e2
  have hcL : c < L := by
    rcases Nat.lt_or_ge c L with h | h
    · exact h
    · have : 2 ^ L ≤ 2 ^ c := Nat.pow_le_pow_right (by omega) h
      have h2 : 2 ^ c ≤ A := by rw [hm]; exact Nat.le_mul_of_pos_right _ (by omega)
      omega
  have t1 := popR_top A L (64 - L) hhi
  rw [show L + (64 - L) = 64 from by omega] at t1
  have t2 := popR_cat c (2 * m + 1) 0 (Nat.pow_pos (by omega)) (L - c)
  rw [Nat.add_zero, ← hm, show c + (L - c) = L from by omega, popR_zero] at t2
  have t3 := popR_le (2 * m + 1) (L - c)
  have t4 := popR_ge A 64 c hc
  have t5 : dig A c = 1 := by
    unfold dig
    rw [hm, Nat.mul_div_cancel_left _ (Nat.pow_pos (by omega))]
    omega
  omega
end Go.Proofs.YtoclfldmkipokaaDoor.Ints
