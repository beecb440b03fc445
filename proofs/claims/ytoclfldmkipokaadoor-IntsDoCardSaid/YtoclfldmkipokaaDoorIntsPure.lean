/- What operators give of values, in plain numbers. -/
import Derived.Test.YtoclfldmkipokaaDoorIntsLaid
import Derived.Laws.BitsAllLaws
namespace Go.Proofs.YtoclfldmkipokaaDoor.Ints
open Go.RowKit
set_option maxRecDepth 100000

/-- How many values a type has. -/
def mdT (t : Int) : Int := if t = 127 then 4294967296 else 18446744073709551616
theorem loT_id {t x : Int} (ht : isT t) (h : inR t x) : loT t x = x := by
  rcases ht with rfl | rfl
  · obtain ⟨h0, h1⟩ := inR_32 h
    show x % 4294967296 = x
    omega
  · rfl
theorem loT_mod {t x : Int} (ht : isT t) : loT t (x % 18446744073709551616) = x % mdT t := by
  rcases ht with rfl | rfl
  · show x % 18446744073709551616 % 4294967296 = x % 4294967296
    omega
  · rfl
/-- The value of an operator, where there is no trap. -/
def vaL (t l x y : Int) : Int := loT (gvT t l) (ruV t l x y)
theorem tw_in {op t l : Int} (x y : Int) (hB : twB op = true) (hf : famT op = t) (hl : famL op = l) (ht : isT t) (hx : inR t x) (hy : inR t y) : twV op x y = (if trT t l x y = 0 then vaL t l x y else 0) ∧ twT op x y = trT t l x y := by
  have h := tw_dv x y hB hf hl
  rw [h.1, h.2, loT_id ht hx, loT_id ht hy]
  unfold opV
  rw [loT_id ht hx, loT_id ht hy]
  exact ⟨rfl, rfl⟩
theorem tw_va {op t l : Int} (x y : Int) (hB : twB op = true) (hf : famT op = t) (hl : famL op = l) (ht : isT t) (hx : inR t x) (hy : inR t y) (h0 : trT t l x y = 0) : twV op x y = vaL t l x y ∧ twT op x y = 0 := by
  have h := tw_in x y hB hf hl ht hx hy
  rw [h.1, h.2, if_pos h0]
  exact ⟨rfl, h0⟩
theorem tr_no {t l x y : Int} (h : l < 109 ∨ 112 < l) : trT t l x y = 0 := if_pos h
theorem tr_nz {t l x y : Int} (hl : l ≠ 109) (hy : y ≠ 0) : trT t l x y = 0 := by
  unfold trT
  by_cases h : l < 109 ∨ 112 < l
  · rw [if_pos h]
  · rw [if_neg h, if_neg hy, if_neg (fun h => hl h.1)]
theorem zero_in (t : Int) : inR t 0 := ⟨by omega, by unfold mxT; split <;> omega⟩
theorem one_in (t : Int) : inR t 1 := ⟨by omega, by unfold mxT; split <;> omega⟩
/-- The types that arithmetic gives. -/
theorem gv_t {t l : Int} (h1 : 79 < l) (h2 : l ≤ 120) : gvT t l = t := (if_neg (by omega)).trans (if_neg (by omega))
theorem ru_r {t l x y : Int} (h1 : 79 < l) : ruV t l x y = rV t l x y := if_neg (by omega)
theorem va_r {t l x y : Int} (h1 : 79 < l) (h2 : l ≤ 120) : vaL t l x y = loT t (rV t l x y) := by unfold vaL; rw [gv_t h1 h2, ru_r h1]
theorem va106 {t x y : Int} (ht : isT t) : vaL t 106 x y = (x + y) % mdT t := by rw [va_r (by omega) (by omega)]; exact loT_mod ht
theorem va107 {t x y : Int} (ht : isT t) : vaL t 107 x y = (x - y) % mdT t := by rw [va_r (by omega) (by omega)]; exact loT_mod ht
theorem va108 {t x y : Int} (ht : isT t) : vaL t 108 x y = (x * y) % mdT t := by rw [va_r (by omega) (by omega)]; exact loT_mod ht
theorem va109 {t x y : Int} (ht : isT t) : vaL t 109 x y = (sgT t x).tdiv (sgT t y) % mdT t := by rw [va_r (by omega) (by omega)]; exact loT_mod ht
theorem va111 {t x y : Int} (ht : isT t) : vaL t 111 x y = (sgT t x).tmod (sgT t y) % mdT t := by rw [va_r (by omega) (by omega)]; exact loT_mod ht
theorem va110 {t x y : Int} (ht : isT t) (hx : inR t x) (hy : inR t y) : vaL t 110 x y = x / y := by
  rw [va_r (by omega) (by omega)]
  exact loT_id ht ⟨Int.ediv_nonneg hx.1 hy.1, Int.le_trans (Int.ediv_le_self _ hx.1) hx.2⟩
theorem va112 {t x y : Int} (ht : isT t) (hy : inR t y) (h0 : y ≠ 0) : vaL t 112 x y = x % y := by
  rw [va_r (by omega) (by omega)]
  have h1 := Int.emod_nonneg x h0
  have h2 := Int.emod_lt_of_pos x (show 0 < y by have := hy.1; omega)
  show loT t (x % y) = x % y
  exact loT_id ht ⟨h1, by have := hy.2; omega⟩
theorem toNat_lt {t x : Int} (hx : inR t x) : x.toNat < 18446744073709551616 := by have := inR_u hx; unfold u64R at this; omega
theorem mx_md {t : Int} (ht : isT t) : mxT t + 1 = mdT t := by rcases ht with rfl | rfl <;> rfl
theorem va113 {t x y : Int} (ht : isT t) (hx : inR t x) (hy : inR t y) : vaL t 113 x y = ((x.toNat &&& y.toNat : Nat) : Int) := by
  have ux := inR_u hx; have uy := inR_u hy
  rw [va_r (by omega) (by omega)]
  show loT t (bits .and .u64 x y) = _
  rw [u64_and x y ux.1 (by have := ux.2; omega) uy.1 (by have := uy.2; omega)]
  have h := @Nat.and_le_left x.toNat y.toNat
  exact loT_id ht ⟨by omega, by have := hx.2; have := hx.1; omega⟩
theorem mx_pow {t : Int} (ht : isT t) : ∃ n : Nat, mxT t = ((2 ^ n : Nat) : Int) - 1 := by
  rcases ht with rfl | rfl
  · exact ⟨32, rfl⟩
  · exact ⟨64, rfl⟩
theorem va114 {t x y : Int} (ht : isT t) (hx : inR t x) (hy : inR t y) : vaL t 114 x y = ((x.toNat ||| y.toNat : Nat) : Int) := by
  have ux := inR_u hx; have uy := inR_u hy
  rw [va_r (by omega) (by omega)]
  show loT t (bits .or .u64 x y) = _
  rw [u64_or x y ux.1 (by have := ux.2; omega) uy.1 (by have := uy.2; omega)]
  obtain ⟨n, hn⟩ := mx_pow ht
  have h : x.toNat ||| y.toNat < 2 ^ n := Nat.or_lt_two_pow (by have := hx.2; have := hx.1; omega) (by have := hy.2; have := hy.1; omega)
  exact loT_id ht ⟨by omega, by rw [hn]; omega⟩
theorem va115 {t x y : Int} (ht : isT t) (hx : inR t x) (hy : inR t y) : vaL t 115 x y = ((x.toNat ^^^ y.toNat : Nat) : Int) := by
  have ux := inR_u hx; have uy := inR_u hy
  rw [va_r (by omega) (by omega)]
  show loT t (bits .xor .u64 x y) = _
  rw [u64_xor x y ux.1 (by have := ux.2; omega) uy.1 (by have := uy.2; omega)]
  obtain ⟨n, hn⟩ := mx_pow ht
  have h : x.toNat ^^^ y.toNat < 2 ^ n := Nat.xor_lt_two_pow (by have := hx.2; have := hx.1; omega) (by have := hy.2; have := hy.1; omega)
  exact loT_id ht ⟨by omega, by rw [hn]; omega⟩
theorem md_id {t x : Int} (ht : isT t) (hx : inR t x) : x % mdT t = x := Int.emod_eq_of_lt hx.1 (by have := hx.2; have := mx_md ht; omega)
theorem sg_md {t x : Int} (ht : isT t) (hx : inR t x) : sgT t x % mdT t = x := by
  rcases ht with rfl | rfl
  · obtain ⟨h0, h1⟩ := inR_32 hx
    show sg32 (x % 4294967296) % 4294967296 = x
    unfold sg32; split <;> omega
  · obtain ⟨h0, h1⟩ := inR_64 hx
    show sg64 x % 18446744073709551616 = x
    unfold sg64; split <;> omega
theorem sg_one {t : Int} (ht : isT t) : sgT t 1 = 1 := by rcases ht with rfl | rfl <;> decide
end Go.Proofs.YtoclfldmkipokaaDoor.Ints
