/- What shifts, turns and counts give, in plain numbers. -/
import Derived.Test.YtoclfldmkipokaaDoorIntsNat
namespace Go.Proofs.YtoclfldmkipokaaDoor.Ints
open Go.RowKit
set_option maxRecDepth 100000

theorem cast_shl (X k : Nat) : (X : Int) * 2 ^ k = ((X * 2 ^ k : Nat) : Int) := by simp
theorem cast_shr (X k : Nat) : (X : Int) / 2 ^ k = ((X / 2 ^ k : Nat) : Int) := by simp
/-- A type's digits. -/
def wN (t : Int) : Nat := (wdT t).toNat
def kN (t y : Int) : Nat := (y % wdT t).toNat
theorem kN_lt {t : Int} (ht : isT t) (y : Int) : kN t y < wN t := by
  rcases ht with rfl | rfl
  · show (y % 32).toNat < 32; omega
  · show (y % 64).toNat < 64; omega
theorem in_pow {t x : Int} (ht : isT t) (hx : inR t x) : x.toNat < 2 ^ wN t := by
  rcases ht with rfl | rfl
  · have := inR_32 hx; show x.toNat < 2 ^ 32; omega
  · have := inR_64 hx; show x.toNat < 2 ^ 64; omega
theorem pow_in {t : Int} (ht : isT t) {X : Nat} (h : X < 2 ^ wN t) : inR t (X : Int) := by
  rcases ht with rfl | rfl
  · have h : X < 2 ^ 32 := h
    exact ⟨by omega, show (X : Int) ≤ 4294967295 by omega⟩
  · have h : X < 2 ^ 64 := h
    exact ⟨by omega, show (X : Int) ≤ 18446744073709551615 by omega⟩
theorem w_le {t : Int} (ht : isT t) : wN t ≤ 64 := by rcases ht with rfl | rfl <;> decide
theorem lo_nat {t : Int} (ht : isT t) (N : Nat) : loT t ((N % 18446744073709551616 : Nat) : Int) = ((N % 2 ^ wN t : Nat) : Int) := by
  rcases ht with rfl | rfl
  · show ((N % 18446744073709551616 : Nat) : Int) % 4294967296 = ((N % 2 ^ 32 : Nat) : Int); omega
  · rfl
theorem va116 {t x y : Int} (ht : isT t) (hx : inR t x) : vaL t 116 x y = ((x.toNat * 2 ^ kN t y % 2 ^ wN t : Nat) : Int) := by
  obtain ⟨X, rfl⟩ := Int.eq_ofNat_of_zero_le hx.1
  rw [va_r (by omega) (by omega)]
  show loT t ((X : Int) * 2 ^ (kN t y) % 18446744073709551616) = _
  rw [cast_shl, show ((X * 2 ^ kN t y : Nat) : Int) % 18446744073709551616 = ((X * 2 ^ kN t y % 18446744073709551616 : Nat) : Int) from by omega, lo_nat ht]
  rfl
theorem va118 {t x y : Int} (ht : isT t) (hx : inR t x) : vaL t 118 x y = ((x.toNat / 2 ^ kN t y : Nat) : Int) := by
  have hp := in_pow ht hx
  obtain ⟨X, rfl⟩ := Int.eq_ofNat_of_zero_le hx.1
  rw [va_r (by omega) (by omega)]
  show loT t ((X : Int) / 2 ^ (kN t y)) = _
  rw [cast_shr]
  exact loT_id ht (pow_in ht (Nat.lt_of_le_of_lt (Nat.div_le_self _ _) hp))
theorem wk_nat {t : Int} (ht : isT t) (y : Int) : (wdT t - y % wdT t).toNat = wN t - kN t y := by
  rcases ht with rfl | rfl
  · show (32 - y % 32).toNat = 32 - (y % 32).toNat; omega
  · show (64 - y % 64).toNat = 64 - (y % 64).toNat; omega
theorem or_lo {t : Int} (ht : isT t) (A B : Nat) (hA : A < 18446744073709551616) (hB : B < 18446744073709551616) : loT t (bits .or .u64 (A : Int) (B : Int)) = ((A % 2 ^ wN t ||| B % 2 ^ wN t : Nat) : Int) := by
  rw [u64_or_nat A B hA hB]
  have h : A ||| B < 2 ^ 64 := Nat.or_lt_two_pow hA hB
  rw [show A ||| B = (A ||| B) % 18446744073709551616 from (Nat.mod_eq_of_lt h).symm, lo_nat ht, Nat.or_mod_two_pow]
theorem w_dvd {t : Int} (ht : isT t) (N : Nat) : N % 18446744073709551616 % 2 ^ wN t = N % 2 ^ wN t := by
  rcases ht with rfl | rfl
  · show N % 18446744073709551616 % 2 ^ 32 = N % 2 ^ 32; omega
  · show N % 18446744073709551616 % 2 ^ 64 = N % 2 ^ 64; omega
theorem va119 {t x y : Int} (ht : isT t) (hx : inR t x) : vaL t 119 x y = ((rlN (wN t) (kN t y) x.toNat : Nat) : Int) := by
  have hp := in_pow ht hx
  have hu := toNat_lt hx
  obtain ⟨X, rfl⟩ := Int.eq_ofNat_of_zero_le hx.1
  rw [va_r (by omega) (by omega)]
  show loT t (bits .or .u64 ((X : Int) * 2 ^ (kN t y) % 18446744073709551616) ((X : Int) / 2 ^ (wdT t - y % wdT t).toNat)) = _
  have hu : X < 18446744073709551616 := hu
  have hp : X < 2 ^ wN t := hp
  rw [wk_nat ht, cast_shl, cast_shr, show ((X * 2 ^ kN t y : Nat) : Int) % 18446744073709551616 = ((X * 2 ^ kN t y % 18446744073709551616 : Nat) : Int) from by omega,
    or_lo ht _ _ (Nat.mod_lt _ (by omega)) (Nat.lt_of_le_of_lt (Nat.div_le_self _ _) hu), w_dvd ht, Nat.mod_eq_of_lt (Nat.lt_of_le_of_lt (Nat.div_le_self _ _) hp)]
  rfl
theorem va120 {t x y : Int} (ht : isT t) (hx : inR t x) : vaL t 120 x y = ((rrN (wN t) (kN t y) x.toNat : Nat) : Int) := by
  have hp := in_pow ht hx
  have hu := toNat_lt hx
  obtain ⟨X, rfl⟩ := Int.eq_ofNat_of_zero_le hx.1
  rw [va_r (by omega) (by omega)]
  show loT t (bits .or .u64 ((X : Int) / 2 ^ (kN t y)) ((X : Int) * 2 ^ (wdT t - y % wdT t).toNat % 18446744073709551616)) = _
  have hu : X < 18446744073709551616 := hu
  have hp : X < 2 ^ wN t := hp
  rw [wk_nat ht, cast_shl, cast_shr, show ((X * 2 ^ (wN t - kN t y) : Nat) : Int) % 18446744073709551616 = ((X * 2 ^ (wN t - kN t y) % 18446744073709551616 : Nat) : Int) from by omega,
    or_lo ht _ _ (Nat.lt_of_le_of_lt (Nat.div_le_self _ _) hu) (Nat.mod_lt _ (by omega)), w_dvd ht, Nat.mod_eq_of_lt (Nat.lt_of_le_of_lt (Nat.div_le_self _ _) hp)]
  rfl
theorem small_in {t n : Int} (h0 : 0 ≤ n) (h1 : n ≤ 64) : inR t n := ⟨h0, by unfold mxT; split <;> omega⟩
theorem va105 {t x y : Int} (ht : isT t) : vaL t 105 x y = (popR x.toNat 64 : Int) := by
  rw [va_r (by omega) (by omega)]
  have := popR_le x.toNat 64
  show loT t (popR x.toNat 64 : Int) = _
  exact loT_id ht (small_in (by omega) (by omega))
theorem va103 {t x y : Int} (ht : isT t) (hx : inR t x) : vaL t 103 x y = wdT t - (Lib.bitLen x.toNat : Int) ∧ (Lib.bitLen x.toNat : Int) ≤ wdT t := by
  have hbl : (Lib.bitLen x.toNat : Int) ≤ wdT t := by
    rcases ht with rfl | rfl
    · obtain ⟨h0, h1⟩ := inR_32 hx
      exact bl_le (k := 32) (by omega) (by omega)
    · obtain ⟨h0, h1⟩ := inR_64 hx
      exact bl_le (k := 64) (by omega) (by omega)
  have hw := wd_le ht
  rw [va_r (by omega) (by omega)]
  refine ⟨?_, hbl⟩
  show loT t (wdT t - (Lib.bitLen x.toNat : Int)) = _
  exact loT_id ht (small_in (by omega) (by omega))
theorem va104 {t x y : Int} (ht : isT t) : vaL t 104 x y = if wdT t ≤ (Lib.ctz 64 x.toNat : Int) then wdT t else (Lib.ctz 64 x.toNat : Int) := by
  have hw := wd_le ht
  rw [va_r (by omega) (by omega)]
  show loT t (if wdT t ≤ (Lib.ctz 64 x.toNat : Int) then wdT t else (Lib.ctz 64 x.toNat : Int)) = _
  split
  · exact loT_id ht (small_in (by omega) (by omega))
  · exact loT_id ht (small_in (by omega) (by omega))
theorem kN_lo {t : Int} (ht : isT t) (n : Int) : kN t (loT t n) = kN t n := by
  rcases ht with rfl | rfl
  · show (n % 4294967296 % 32).toNat = (n % 32).toNat; omega
  · rfl
/-- One operator of any numbers. -/
theorem at_any {op t l a b v : Int} (hB : twB op = true) (hf : famT op = t) (hl : famL op = l) (hn : l < 109 ∨ 112 < l) (ha : u64R a) (hb : u64R b) (hv : vaL t l (loT t a) (loT t b) = v) (W : World) (hT : Tab W) :
    Calls Tryd.prog 18 #[.int .i64 op, .int .u64 a, .int .u64 b] W fun e w' => e = .returned (.tuple #[.int .u64 v, .int .i64 0, .bool true]) ∧ Below W.heap.size W w' :=
  two_at ((tw_nt a b hB hf hl hn).1.trans hv) (tw_nt a b hB hf hl hn).2 hB ha hb W hT
theorem on_any {op t l a v : Int} (hB : onB op = true) (hf : famT op = t) (hl : famL op = l) (hn : l < 109 ∨ 112 < l) (ha : u64R a) (hv : vaL t l (loT t a) (loT t 0) = v) (W : World) (hT : Tab W) :
    Calls Tryd.prog 16 #[.int .i64 op, .int .u64 a] W fun e w' => e = .returned (.tuple #[.int .u64 v, .bool true]) ∧ Below W.heap.size W w' :=
  one_at ((on_nt a hB hf hl hn).trans hv) hB ha W hT
end Go.Proofs.YtoclfldmkipokaaDoor.Ints
