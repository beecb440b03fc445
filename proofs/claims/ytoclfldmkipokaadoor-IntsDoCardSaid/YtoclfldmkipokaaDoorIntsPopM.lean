/- How many ones a number has: the library's way of counting, byte by byte, is the sum of the digits. -/
import Derived.Test.YtoclfldmkipokaaDoorIntsBits
import Derived.Laws.Bits128
namespace Go.Proofs.YtoclfldmkipokaaDoor.Ints
open Go.RowKit
set_option maxRecDepth 100000

/-- Byte by byte. -/
def byB (g : Nat → Nat) : Nat → Nat → Nat
  | 0, _ => 0
  | n + 1, x => 256 * byB g n (x / 256) + g (x % 256)
def m1 : Nat → Nat | 0 => 0 | n + 1 => 256 * m1 n + 85
def m2 : Nat → Nat | 0 => 0 | n + 1 => 256 * m2 n + 51
def m3 : Nat → Nat | 0 => 0 | n + 1 => 256 * m3 n + 15
def g1 (b : Nat) : Nat := (b / 2 &&& 85) + (b &&& 85)
def g2 (b : Nat) : Nat := (b / 4 &&& 51) + (b &&& 51)
def g3 (b : Nat) : Nat := b / 16 + b % 16
theorem and_split (q r m k : Nat) (hr : r < 256) (hk : k < 256) : (256 * q + r) &&& (256 * m + k) = 256 * (q &&& m) + (r &&& k) := by
  apply Nat.eq_of_testBit_eq
  intro i
  have e : (256 : Nat) = 2 ^ 8 := rfl
  rw [Nat.testBit_and, e, Nat.testBit_two_pow_mul_add _ hr, Nat.testBit_two_pow_mul_add _ hk, Nat.testBit_two_pow_mul_add _ (Nat.lt_of_le_of_lt Nat.and_le_left hr)]
  split <;> simp [Nat.testBit_and]
theorem low1 : ∀ (q : Fin 2) (r : Fin 256), (128 * q.val + r.val / 2) &&& 85 = (r.val / 2 &&& 85) := by decide +kernel
theorem low2 : ∀ (q : Fin 4) (r : Fin 256), (64 * q.val + r.val / 4) &&& 51 = (r.val / 4 &&& 51) := by decide +kernel
theorem st1 : ∀ (n x : Nat), (x / 2 &&& m1 n) + (x &&& m1 n) = byB g1 n x
  | 0, x => by simp [m1, byB]
  | n + 1, x => by
    have h1 : x / 2 = 256 * (x / 256 / 2) + (128 * (x / 256 % 2) + x % 256 / 2) := by omega
    have h2 : x &&& m1 (n + 1) = 256 * (x / 256 &&& m1 n) + (x % 256 &&& 85) := by
      conv => lhs; rw [show x = 256 * (x / 256) + x % 256 from by omega]
      exact and_split _ _ _ _ (by omega) (by omega)
    have h3 : x / 2 &&& m1 (n + 1) = 256 * (x / 256 / 2 &&& m1 n) + (x % 256 / 2 &&& 85) := by
      conv => lhs; rw [h1]
      rw [show m1 (n + 1) = 256 * m1 n + 85 from rfl, and_split _ _ _ _ (by omega) (by omega)]
      have := low1 ⟨x / 256 % 2, by omega⟩ ⟨x % 256, by omega⟩
      simp only at this
      rw [this]
    rw [h2, h3]
    have ih := st1 n (x / 256)
    show _ = 256 * byB g1 n (x / 256) + g1 (x % 256)
    rw [← ih]
    unfold g1
    omega
theorem st2 : ∀ (n x : Nat), (x / 4 &&& m2 n) + (x &&& m2 n) = byB g2 n x
  | 0, x => by simp [m2, byB]
  | n + 1, x => by
    have h1 : x / 4 = 256 * (x / 256 / 4) + (64 * (x / 256 % 4) + x % 256 / 4) := by omega
    have h2 : x &&& m2 (n + 1) = 256 * (x / 256 &&& m2 n) + (x % 256 &&& 51) := by
      conv => lhs; rw [show x = 256 * (x / 256) + x % 256 from by omega]
      exact and_split _ _ _ _ (by omega) (by omega)
    have h3 : x / 4 &&& m2 (n + 1) = 256 * (x / 256 / 4 &&& m2 n) + (x % 256 / 4 &&& 51) := by
      conv => lhs; rw [h1]
      rw [show m2 (n + 1) = 256 * m2 n + 51 from rfl, and_split _ _ _ _ (by omega) (by omega)]
      have := low2 ⟨x / 256 % 4, by omega⟩ ⟨x % 256, by omega⟩
      simp only at this
      rw [this]
    rw [h2, h3]
    have ih := st2 n (x / 256)
    show _ = 256 * byB g2 n (x / 256) + g2 (x % 256)
    rw [← ih]
    unfold g2
    omega
theorem byB_by (g h : Nat → Nat) (hg : ∀ b, b < 256 → g b < 256) : ∀ (n x : Nat), byB h n (byB g n x) = byB (fun b => h (g b)) n x
  | 0, _ => rfl
  | n + 1, x => by
    have hb := hg (x % 256) (by omega)
    show 256 * byB h n ((256 * byB g n (x / 256) + g (x % 256)) / 256) + h ((256 * byB g n (x / 256) + g (x % 256)) % 256) = 256 * byB _ n (x / 256) + h (g (x % 256))
    rw [show (256 * byB g n (x / 256) + g (x % 256)) / 256 = byB g n (x / 256) from by omega, show (256 * byB g n (x / 256) + g (x % 256)) % 256 = g (x % 256) from by omega, byB_by g h hg n]
/-- Nibbles of at most 4. -/
def nib (g : Nat → Nat) : Prop := ∀ b, b < 256 → g b < 256 ∧ g b % 16 ≤ 4 ∧ g b / 16 ≤ 4
theorem byB_nib {g : Nat → Nat} (hg : nib g) (n x : Nat) : byB g n x % 16 ≤ 4 := by
  cases n with
  | zero => simp [byB]
  | succ n =>
    have := hg (x % 256) (by omega)
    show (256 * byB g n (x / 256) + g (x % 256)) % 16 ≤ 4
    omega
theorem st3 {g : Nat → Nat} (hg : nib g) : ∀ (n x : Nat), (byB g n x / 16 + byB g n x) &&& m3 n = byB (fun b => g3 (g b)) n x
  | 0, x => by simp [m3, byB]
  | n + 1, x => by
    have hb := hg (x % 256) (by omega)
    have hq := byB_nib hg n (x / 256)
    have ih := st3 hg n (x / 256)
    show ((256 * byB g n (x / 256) + g (x % 256)) / 16 + (256 * byB g n (x / 256) + g (x % 256))) &&& (256 * m3 n + 15) = 256 * byB _ n (x / 256) + g3 (g (x % 256))
    revert hb hq ih
    generalize byB g n (x / 256) = q
    generalize g (x % 256) = r
    intro hb hq ih
    rw [show (256 * q + r) / 16 + (256 * q + r) = 256 * (q / 16 + q) + (16 * (q % 16) + r / 16 + r) from by omega, and_split _ _ _ _ (by omega) (by omega), ih]
    have e : (16 * (q % 16) + r / 16 + r) &&& 15 = g3 r := by
      rw [show (15 : Nat) = 2 ^ 4 - 1 from rfl, Nat.and_two_pow_sub_one_eq_mod]
      unfold g3
      omega
    rw [e]
theorem nib12 : nib (fun b => g2 (g1 b)) := by
  have : ∀ b : Fin 256, g2 (g1 b.val) < 256 ∧ g2 (g1 b.val) % 16 ≤ 4 ∧ g2 (g1 b.val) / 16 ≤ 4 := by decide +kernel
  exact fun b hb => this ⟨b, hb⟩
theorem g1_lt : ∀ b, b < 256 → g1 b < 256 := by
  have : ∀ b : Fin 256, g1 b.val < 256 := by decide +kernel
  exact fun b hb => this ⟨b, hb⟩
/-- A byte's ones. -/
def p8 (b : Nat) : Nat := g3 (g2 (g1 b))
theorem p8_pop : ∀ b : Fin 256, popR b.val 8 = p8 b.val ∧ p8 b.val ≤ 8 := by decide +kernel
theorem dig_part (v n k : Nat) (hk : k < 8) : dig v (n + k) = dig (v / 2 ^ n % 256) k := by
  unfold dig
  rw [Nat.pow_add, ← Nat.div_div_eq_div_mul]
  generalize v / 2 ^ n = y
  have hc : k = 0 ∨ k = 1 ∨ k = 2 ∨ k = 3 ∨ k = 4 ∨ k = 5 ∨ k = 6 ∨ k = 7 := by omega
  rcases hc with rfl | rfl | rfl | rfl | rfl | rfl | rfl | rfl <;> omega
theorem pop_part (v n : Nat) : popR v (n + 8) = popR v n + p8 (v / 2 ^ n % 256) := by
  have h8 := (p8_pop ⟨v / 2 ^ n % 256, by omega⟩).1
  simp only at h8
  rw [← h8]
  have h := fun k hk => dig_part v n k hk
  show popR v n + dig v (n + 0) + dig v (n + 1) + dig v (n + 2) + dig v (n + 3) + dig v (n + 4) + dig v (n + 5) + dig v (n + 6) + dig v (n + 7) = _
  rw [h 0 (by omega), h 1 (by omega), h 2 (by omega), h 3 (by omega), h 4 (by omega), h 5 (by omega), h 6 (by omega), h 7 (by omega)]
  show _ = popR v n + (0 + dig _ 0 + dig _ 1 + dig _ 2 + dig _ 3 + dig _ 4 + dig _ 5 + dig _ 6 + dig _ 7)
  omega
theorem p8_le (b : Nat) (h : b < 256) : p8 b ≤ 8 := (p8_pop ⟨b, h⟩).2
theorem divq (z m Q R : Nat) (h : z = m * Q + R) (hr : R < m) : z / m = Q := by
  subst h
  rw [Nat.mul_add_div (by omega), Nat.div_eq_of_lt hr]; rfl
theorem lin1 (c0 c1 c2 c3 c4 c5 c6 c7 : Nat) : 256 * (256 * (256 * (256 * (256 * (256 * (256 * (256 * 0 + c7) + c6) + c5) + c4) + c3) + c2) + c1) + c0 + (256 * (256 * (256 * (256 * (256 * (256 * c7 + c6) + c5) + c4) + c3) + c2) + c1) = 65536 * (256 * (256 * (256 * (256 * (256 * c7 + (c7 + c6)) + (c6 + c5)) + (c5 + c4)) + (c4 + c3)) + (c3 + c2)) + (256 * (c2 + c1) + (c1 + c0)) := by omega
theorem lin2 (c0 c1 c2 c3 c4 c5 c6 c7 : Nat) : 65536 * (256 * (256 * (256 * (256 * (256 * c7 + (c7 + c6)) + (c6 + c5)) + (c5 + c4)) + (c4 + c3)) + (c3 + c2)) + (256 * (c2 + c1) + (c1 + c0)) + (256 * (256 * (256 * (256 * (256 * c7 + (c7 + c6)) + (c6 + c5)) + (c5 + c4)) + (c4 + c3)) + (c3 + c2)) = 4294967296 * (256 * (256 * (256 * c7 + (c7 + c6)) + (c7 + c6 + c5)) + (c7 + c6 + c5 + c4)) + (256 * (256 * (256 * (c6 + c5 + c4 + c3) + (c5 + c4 + c3 + c2)) + (c4 + c3 + c2 + c1)) + (c3 + c2 + c1 + c0)) := by omega
theorem lin3 (c0 c1 c2 c3 c4 c5 c6 c7 : Nat) : 4294967296 * (256 * (256 * (256 * c7 + (c7 + c6)) + (c7 + c6 + c5)) + (c7 + c6 + c5 + c4)) + (256 * (256 * (256 * (c6 + c5 + c4 + c3) + (c5 + c4 + c3 + c2)) + (c4 + c3 + c2 + c1)) + (c3 + c2 + c1 + c0)) + (256 * (256 * (256 * c7 + (c7 + c6)) + (c7 + c6 + c5)) + (c7 + c6 + c5 + c4)) = 256 * (256 * (256 * (256 * (256 * (256 * (256 * c7 + (c7 + c6)) + (c7 + c6 + c5)) + (c7 + c6 + c5 + c4)) + (c7 + c6 + c5 + c4 + c3)) + (c7 + c6 + c5 + c4 + c3 + c2)) + (c7 + c6 + c5 + c4 + c3 + c2 + c1)) + (c0 + c1 + c2 + c3 + c4 + c5 + c6 + c7) := by omega
/-- The sum of eight bytes' counts. -/
theorem sum8 (c0 c1 c2 c3 c4 c5 c6 c7 z z1 z2 z3 : Nat) (h0 : c0 ≤ 8) (h1 : c1 ≤ 8) (h2 : c2 ≤ 8) (h3 : c3 ≤ 8) (h4 : c4 ≤ 8) (h5 : c5 ≤ 8) (h6 : c6 ≤ 8) (h7 : c7 ≤ 8)
    (hz : z = 256 * (256 * (256 * (256 * (256 * (256 * (256 * (256 * 0 + c7) + c6) + c5) + c4) + c3) + c2) + c1) + c0) (e1 : z1 = z + z / 256) (e2 : z2 = z1 + z1 / 65536) (e3 : z3 = z2 + z2 / 4294967296) :
    z3 % 128 = c0 + c1 + c2 + c3 + c4 + c5 + c6 + c7 ∧ z < 18446744073709551616 ∧ z1 < 18446744073709551616 ∧ z2 < 18446744073709551616 ∧ z3 < 18446744073709551616 := by
  have q1 := divq z 256 (256 * (256 * (256 * (256 * (256 * (256 * c7 + c6) + c5) + c4) + c3) + c2) + c1) c0 (by rw [hz, Nat.mul_zero, Nat.zero_add]) (by clear hz e1 e2 e3; omega)
  rw [q1, hz, lin1] at e1
  have q2 := divq z1 65536 _ _ e1 (by clear hz e1 e2 e3 q1; omega)
  rw [q2, e1, lin2] at e2
  have q3 := divq z2 4294967296 _ _ e2 (by clear hz e1 e2 e3 q1 q2; omega)
  rw [q3, e2, lin3] at e3
  clear q1 q2 q3
  refine ⟨?_, by rw [hz]; clear e3 e1 e2 hz; omega, by rw [e1]; clear e3 e1 e2 hz; omega, by rw [e2]; clear e3 e1 e2 hz; omega, by rw [e3]; clear e3 e1 e2 hz; omega⟩
  clear hz e1 e2
  revert e3
  generalize 256 * (256 * (256 * (256 * (256 * (256 * c7 + (c7 + c6)) + (c7 + c6 + c5)) + (c7 + c6 + c5 + c4)) + (c7 + c6 + c5 + c4 + c3)) + (c7 + c6 + c5 + c4 + c3 + c2)) + (c7 + c6 + c5 + c4 + c3 + c2 + c1) = K
  intro e3
  omega
theorem byB_lt (g : Nat → Nat) (hg : ∀ b, b < 256 → g b < 256) : ∀ (n x : Nat), byB g n x < 256 ^ n
  | 0, _ => by simp [byB]
  | n + 1, x => by
    have h1 := byB_lt g hg n (x / 256)
    have h2 := hg (x % 256) (by omega)
    show 256 * byB g n (x / 256) + g (x % 256) < 256 ^ (n + 1)
    rw [Nat.pow_succ]
    omega
theorem hm1 : m1 8 = 6148914691236517205 := by decide
theorem hm2 : m2 8 = 3689348814741910323 := by decide
theorem hm3 : m3 8 = 1085102592571150095 := by decide
theorem pop64 (x : Nat) : popR x 64 = p8 (x / 2 ^ 0 % 256) + p8 (x / 2 ^ 8 % 256) + p8 (x / 2 ^ 16 % 256) + p8 (x / 2 ^ 24 % 256) + p8 (x / 2 ^ 32 % 256) + p8 (x / 2 ^ 40 % 256) + p8 (x / 2 ^ 48 % 256) + p8 (x / 2 ^ 56 % 256) := by
  have h := pop_part x
  have h0 := h 0; have h1 := h 8; have h2 := h 16; have h3 := h 24; have h4 := h 32; have h5 := h 40; have h6 := h 48; have h7 := h 56
  rw [show popR x 64 = popR x (56 + 8) from rfl, h7, show popR x 56 = popR x (48 + 8) from rfl, h6, show popR x 48 = popR x (40 + 8) from rfl, h5, show popR x 40 = popR x (32 + 8) from rfl, h4, show popR x 32 = popR x (24 + 8) from rfl, h3, show popR x 24 = popR x (16 + 8) from rfl, h2, show popR x 16 = popR x (8 + 8) from rfl, h1, show popR x 8 = popR x (0 + 8) from rfl, h0, show popR x 0 = 0 from rfl, Nat.zero_add]
theorem by8 (x : Nat) : byB p8 8 x = 256 * (256 * (256 * (256 * (256 * (256 * (256 * (256 * 0 + p8 (x / 2 ^ 56 % 256)) + p8 (x / 2 ^ 48 % 256)) + p8 (x / 2 ^ 40 % 256)) + p8 (x / 2 ^ 32 % 256)) + p8 (x / 2 ^ 24 % 256)) + p8 (x / 2 ^ 16 % 256)) + p8 (x / 2 ^ 8 % 256)) + p8 (x / 2 ^ 0 % 256) := by
  have e : ∀ k, x / 2 ^ k / 256 = x / 2 ^ (k + 8) := fun k => by rw [Nat.div_div_eq_div_mul, Nat.pow_add]
  have e0 : x = x / 2 ^ 0 := by simp
  conv => lhs; rw [e0]
  simp only [byB, e]
/-- The steps, one behind the other, and what they come to. -/
theorem ones_steps (x a b c d e f : Nat) (ha : a = (x / 2 &&& 6148914691236517205) + (x &&& 6148914691236517205)) (hb : b = (a / 4 &&& 3689348814741910323) + (a &&& 3689348814741910323))
    (hc : c = (b / 16 + b) &&& 1085102592571150095) (hd : d = c + c / 256) (he : e = d + d / 65536) (hf : f = e + e / 4294967296) :
    f % 128 = popR x 64 ∧ a < 18446744073709551616 ∧ b < 9223372036854775808 ∧ c < 18446744073709551616 ∧ d < 18446744073709551616 ∧ e < 18446744073709551616 ∧ f < 18446744073709551616 := by
  rw [← hm1, st1] at ha
  rw [← hm2, st2, ha, byB_by g1 g2 g1_lt] at hb
  have la := byB_lt g1 g1_lt 8 x
  have lb : b < 9223372036854775808 := by
    have := byB_lt _ (fun b hb => (nib12 b hb).1) 7 (x / 256)
    have h2 := byB_nib nib12 8 x
    rw [hb]
    have h3 : byB (fun b => g2 (g1 b)) 8 x / 72057594037927936 % 256 < 128 := by
      have hq : ∀ n y, byB (fun b => g2 (g1 b)) (n + 1) y / 256 ^ n < 128 := by
        intro n
        induction n with
        | zero =>
          intro y
          have hh : g2 (g1 (y % 256)) < 256 ∧ g2 (g1 (y % 256)) % 16 ≤ 4 ∧ g2 (g1 (y % 256)) / 16 ≤ 4 := nib12 (y % 256) (by omega)
          have e : byB (fun b => g2 (g1 b)) (0 + 1) y / 256 ^ 0 = g2 (g1 (y % 256)) := by simp [byB]
          rw [e]
          clear this h2
          omega
        | succ n ih =>
          intro y
          rw [Nat.pow_succ, Nat.mul_comm, ← Nat.div_div_eq_div_mul]
          have hh : g2 (g1 (y % 256)) < 256 ∧ g2 (g1 (y % 256)) % 16 ≤ 4 ∧ g2 (g1 (y % 256)) / 16 ≤ 4 := nib12 (y % 256) (by omega)
          have : byB (fun b => g2 (g1 b)) (n + 1 + 1) y / 256 = byB (fun b => g2 (g1 b)) (n + 1) (y / 256) := by
            show (256 * byB _ (n + 1) (y / 256) + g2 (g1 (y % 256))) / 256 = _
            omega
          rw [this]
          exact ih _
      have h7 : byB (fun b => g2 (g1 b)) 8 x / 256 ^ 7 < 128 := hq 7 x
      clear hq
      omega
    have h4 := byB_lt _ (fun b hb => (nib12 b hb).1) 8 x
    omega
  rw [← hm3, hb, st3 nib12] at hc
  have hl := fun k => p8_le (x / 2 ^ k % 256) (by omega)
  have S := sum8 _ _ _ _ _ _ _ _ c d e f (hl 0) (hl 8) (hl 16) (hl 24) (hl 32) (hl 40) (hl 48) (hl 56) (hc.trans (by8 x)) hd he hf
  rw [pop64]
  exact ⟨S.1, by rw [ha]; exact la, lb, S.2.1, S.2.2.1, S.2.2.2.1, S.2.2.2.2⟩

end Go.Proofs.YtoclfldmkipokaaDoor.Ints
