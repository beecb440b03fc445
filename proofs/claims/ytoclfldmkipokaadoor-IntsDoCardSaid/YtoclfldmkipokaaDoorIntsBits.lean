/- The library's counting functions that layer 2 calls, walked: how many digits a number has, how many zeros stand at its end. -/
import Derived.Test.YtoclfldmkipokaaDoorIntsRule
import Derived.Lib.BitFns
import Derived.Lib.TrailingZeros
import Derived.Laws.Bits64b
namespace Go.Proofs.YtoclfldmkipokaaDoor.Ints
open Go.RowKit
set_option maxRecDepth 100000
set_option maxHeartbeats 1000000

theorem tab_size : Lib.len8tab.size = 256 := by decide +kernel
theorem tab_all : ∀ n : Fin 256, (Lib.len8tab[n.val]'(by rw [tab_size]; exact n.isLt)).toNat = Lib.bitLen n.val := by decide +kernel
theorem tab_get (y : Int) (h : y.toNat < Lib.len8tab.size) : (Lib.len8tab[y.toNat]'h).toNat = Lib.bitLen y.toNat := tab_all ⟨y.toNat, by rw [← tab_size]; exact h⟩

theorem len64_sum (k m : Nat) (hk : k ≤ 56) (l : m ≤ 8) : wrap64 ((k : Int) + wrap64 (m : Int)) = ((k + m : Nat) : Int) := by
  unfold wrap64
  omega
theorem len64_ways (x y s : Int) (k : Nat) (hx : 0 ≤ x) (hx1 : x ≤ 18446744073709551615) (hy : y = x / 2 ^ k) (hlo : k = 0 ∨ 2 ^ k ≤ x.toNat) (hhi : y < 256) (hs : s = k) (hk : k ≤ 56) (h : y.toNat < Lib.len8tab.size) :
    wrap64 (s + wrap64 ((Lib.len8tab[y.toNat]'h).toNat : Int)) = (Lib.bitLen x.toNat : Int) := by
  rw [tab_get]
  subst hy hs
  have h0 : (0 : Int) ≤ x / 2 ^ k := Int.ediv_nonneg hx (Int.pow_nonneg (by omega))
  have e : x / 2 ^ k = ((x.toNat / 2 ^ k : Nat) : Int) := by
    rw [Int.natCast_ediv, Int.toNat_of_nonneg hx]; simp
  have l := Lib.bitLen_le8' _ h0 (by omega : x / 2 ^ k ≤ 255)
  rw [e, Int.toNat_natCast] at l ⊢
  have hx2 : x.toNat < 2 ^ 64 := by omega
  have hb : Lib.bitLen x.toNat = k + Lib.bitLen (x.toNat / 2 ^ k) := by
    rcases hlo with rfl | hlo
    · simp
    · exact Lib.bitLen_shift k x.toNat hlo hx2
  rw [hb]
  clear hb hx2 e h0 hlo hhi h hx hx1
  revert l
  generalize Lib.bitLen (x.toNat / 2 ^ k) = m
  intro l
  exact len64_sum k m hk l

theorem len64_any (x : Int) (w : World) (h0 : 0 ≤ x) (h1 : x ≤ 18446744073709551615) : Calls Tryd.prog 61 #[.int .u64 x] w fun e w' => e = .returned (.int .i64 (Lib.bitLen x.toNat)) ∧ w' = w := by
  have hs : (Lib.len8tab.size : Int) = 256 := by rw [tab_size]; rfl
  go_enter Tryd.func61, Tryd.ntmps61
  go_wp2
  all_goals (go_ret; refine ⟨ret_int ?_, rfl⟩)
  all_goals first
    | exact len64_ways x _ 56 56 h0 h1 (by omega) (by omega) (by omega) rfl (by omega) _
    | exact len64_ways x _ 48 48 h0 h1 (by omega) (by omega) (by omega) rfl (by omega) _
    | exact len64_ways x _ 40 40 h0 h1 (by omega) (by omega) (by omega) rfl (by omega) _
    | exact len64_ways x _ 32 32 h0 h1 (by omega) (by omega) (by omega) rfl (by omega) _
    | exact len64_ways x _ 24 24 h0 h1 (by omega) (by omega) (by omega) rfl (by omega) _
    | exact len64_ways x _ 16 16 h0 h1 (by omega) (by omega) (by omega) rfl (by omega) _
    | exact len64_ways x _ 8 8 h0 h1 (by omega) (by omega) (by omega) rfl (by omega) _
    | exact len64_ways x _ 0 0 h0 h1 (by omega) (by omega) (by omega) rfl (by omega) _
    | (have := len64_ways x x 0 0 h0 h1 (by omega) (by omega) (by omega) rfl (by omega) (by rw [tab_size]; omega); simpa using this)

/-- The library's table of 64 bytes, in its variable. -/
def Tab (w : World) : Prop := ∀ j, j < 64 → w.cell? ⟨0, j, none⟩ = some (.int .u8 (Lib.deBruijn64tab.getD j 0))
theorem tz64_key (x a : Nat) (hx : x < 18446744073709551616) (hx0 : x ≠ 0) (hlow : x &&& (18446744073709551616 - x) = a) :
    IntKind.u64.wrap (bits BinOp.and IntKind.u64 (x : Int) (IntKind.u64.wrap (-(x : Int))) * 285870213051353865) / 288230376151711744 = ((a * 285870213051353865 % 18446744073709551616 / 288230376151711744 : Nat) : Int) := by
  have e1 : IntKind.u64.wrap (-(x : Int)) = ((18446744073709551616 - x : Nat) : Int) := by rw [IntKind.wrap_u64]; omega
  rw [e1, bits_and_u64_nat x _ hx (by omega), hlow, IntKind.wrap_u64]
  omega
theorem tz64_core (x k idx : Nat) (w : World) (hx0 : ((x : Int) == 0) = false)
    (key : IntKind.u64.wrap (bits BinOp.and IntKind.u64 (x : Int) (IntKind.u64.wrap (-(x : Int))) * 285870213051353865) / 288230376151711744 = (idx : Int))
    (hi : idx < 64) (hk : k < 64) (hcell : w.cell? ⟨0, idx, none⟩ = some (.int .u8 k)) :
    Calls Tryd.prog 63 #[.int .u64 x] w fun e w' => e = .returned (.int .i64 k) ∧ w' = w := by
  go_enter Tryd.func63, Tryd.ntmps63
  go_wp2_with (simp only [key])
  go_ret
  exact ⟨rfl, rfl⟩
theorem tz64_zero (w : World) : Calls Tryd.prog 63 #[.int .u64 0] w fun e w' => e = .returned (.int .i64 64) ∧ w' = w := by
  go_enter Tryd.func63, Tryd.ntmps63
  go_wp2
  go_ret
  exact ⟨rfl, rfl⟩
theorem tz64_any (x : Int) (w : World) (h0 : 0 ≤ x) (h1 : x ≤ 18446744073709551615) (hT : Tab w) : Calls Tryd.prog 63 #[.int .u64 x] w fun e w' => e = .returned (.int .i64 (Lib.ctz 64 x.toNat)) ∧ w' = w := by
  obtain ⟨n, rfl⟩ := Int.eq_ofNat_of_zero_le h0
  by_cases hx0 : n = 0
  · subst hx0
    exact tz64_zero w
  · obtain ⟨hlow, hk⟩ := Lib.lowest_bit 64 n hx0 (by omega)
    obtain ⟨hi, htab⟩ := Lib.deBruijn64_at _ hk
    have hcell := hT _ hi
    rw [htab] at hcell
    exact tz64_core n _ _ w (by simp; omega) (tz64_key n _ (by omega) hx0 hlow) hi hk hcell
end Go.Proofs.YtoclfldmkipokaaDoor.Ints
