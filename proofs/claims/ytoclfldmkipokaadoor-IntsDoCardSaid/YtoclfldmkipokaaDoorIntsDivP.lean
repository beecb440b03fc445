/- IntsDivide: the plain facts, and what is called. -/
import Derived.Test.YtoclfldmkipokaaDoorIntsOrderP
namespace Go.Proofs.YtoclfldmkipokaaDoor.Ints
open Go.RowKit
set_option maxRecDepth 100000
set_option maxHeartbeats 400000

theorem beq_ne {x y : Int} (h : x ≠ y) : (x == y) = false := by simpa using h
def CallD (op x y v t : Int) : Prop := ∀ W, Tab W → Calls Tryd.prog 18 #[.int .i64 op, .int .u64 x, .int .u64 y] W fun e w' => e = .returned (.tuple #[.int .u64 v, .int .i64 t, .bool true]) ∧ Below W.heap.size W w'
def CallV (t n v : Int) : Prop := ∀ W, Calls Tryd.prog 24 #[.int .u8 t, .int .i64 n] W fun e w' => e = .returned (.int .u64 v) ∧ W = w'
def CallS (t v n : Int) : Prop := ∀ W, Calls Tryd.prog 22 #[.int .u8 t, .int .u64 v] W fun e w' => e = .returned (.int .i64 n) ∧ W = w'
theorem callD {op t l x y v tr : Int} (hB : twB op = true) (hf : famT op = t) (hl : famL op = l) (ht : isT t) (hx : inR t x) (hy : inR t y) (h0 : trT t l x y = tr) (hv : (if trT t l x y = 0 then vaL t l x y else 0) = v) : CallD op x y v tr :=
  fun W hT => two_at ((tw_in x y hB hf hl ht hx hy).1.trans hv) ((tw_in x y hB hf hl ht hx hy).2.trans h0) hB (inR_u hx) (inR_u hy) W hT
theorem callD0 {op t l x y v : Int} (hB : twB op = true) (hf : famT op = t) (hl : famL op = l) (ht : isT t) (hx : inR t x) (hy : inR t y) (h0 : trT t l x y = 0) (hv : vaL t l x y = v) : CallD op x y v 0 :=
  callD hB hf hl ht hx hy h0 ((if_pos h0).trans hv)
theorem callV {t a : Int} (ha : u64R a) : CallV t (wrap64 a) (loT t a) := fun W => by
  have := value_any t (wrap64 a) W
  rw [vaT_lo t a ha] at this
  exact this
theorem callS {t v : Int} (hv : u64R v) : CallS t v (sgT t v) := fun W => sgn_any t v W hv
theorem tr_zero {t l x : Int} (h1 : 109 ≤ l) (h2 : l ≤ 112) : trT t l x 0 = 2 := (if_neg (by omega)).trans (if_pos rfl)
theorem tr_over {t x y : Int} (hy : y ≠ 0) (hx : x = leT t) (hs : sgT t y = -1) : trT t 109 x y = 3 := (if_neg (by omega)).trans ((if_neg hy).trans (if_pos ⟨rfl, hx, hs⟩))
theorem tr_sign {t x y : Int} (hy : y ≠ 0) (h : ¬ (x = leT t ∧ sgT t y = -1)) : trT t 109 x y = 0 := (if_neg (by omega)).trans ((if_neg hy).trans (if_neg (fun k => h k.2)))
theorem md_in {t n : Int} (ht : isT t) : inR t (n % mdT t) := by
  have h := mx_md ht
  have hp : 0 < mdT t := by rcases ht with rfl | rfl <;> decide
  have h1 := Int.emod_nonneg n (show mdT t ≠ 0 by omega)
  have h2 := Int.emod_lt_of_pos n hp
  exact ⟨h1, by omega⟩
theorem div_in {t x y : Int} (hx : inR t x) (hy : inR t y) : inR t (x / y) := ⟨Int.ediv_nonneg hx.1 hy.1, Int.le_trans (Int.ediv_le_self _ hx.1) hx.2⟩
theorem rem_in {t x y : Int} (hy : inR t y) (h0 : y ≠ 0) : inR t (x % y) := by
  have h1 := Int.emod_nonneg x h0
  have h2 := Int.emod_lt_of_pos x (show 0 < y by have := hy.1; omega)
  exact ⟨h1, by have := hy.2; omega⟩
theorem u_back {t x y : Int} (ht : isT t) (hx : inR t x) (hy : inR t y) : x / y * y % mdT t = x / y * y ∧ (x / y * y + x % y) % mdT t = x ∧ inR t (x / y * y) := by
  have h := Int.ediv_mul_add_emod x y
  have h1 : 0 ≤ x / y * y := Int.mul_nonneg (Int.ediv_nonneg hx.1 hy.1) hy.1
  have h2 : 0 ≤ x % y := by
    by_cases h0 : y = 0
    · subst h0; rw [Int.emod_zero]; exact hx.1
    · exact Int.emod_nonneg x h0
  have h3 : inR t (x / y * y) := ⟨h1, by have := hx.2; omega⟩
  exact ⟨md_id ht h3, by rw [h]; exact md_id ht hx, h3⟩
theorem s_back {t x y : Int} (ht : isT t) (hx : inR t x) (hy : inR t y) : ((sgT t x).tdiv (sgT t y) % mdT t * y % mdT t + (sgT t x).tmod (sgT t y) % mdT t) % mdT t = x := by
  have e : y = sgT t y % mdT t := (sg_md ht hy).symm
  have h : (sgT t x).tdiv (sgT t y) % mdT t * y % mdT t = (sgT t x).tdiv (sgT t y) * sgT t y % mdT t := by
    generalize (sgT t x).tdiv (sgT t y) = d
    conv => lhs; rw [e]
    rw [← Int.mul_emod]
  rw [h, ← Int.add_emod, Int.tdiv_mul_add_tmod]
  exact sg_md ht hx
theorem sg_rng {t x : Int} (ht : isT t) (hx : inR t x) : -leT t ≤ sgT t x ∧ sgT t x < leT t := by
  rcases ht with rfl | rfl
  · obtain ⟨h0, h1⟩ := inR_32 hx
    show -2147483648 ≤ sg32 (x % 4294967296) ∧ sg32 (x % 4294967296) < 2147483648
    unfold sg32; split <;> omega
  · obtain ⟨h0, h1⟩ := inR_64 hx
    show -9223372036854775808 ≤ sg64 x ∧ sg64 x < 9223372036854775808
    unfold sg64; split <;> omega
theorem sg_of {t z : Int} (ht : isT t) (h1 : -leT t ≤ z) (h2 : z < leT t) : sgT t (z % mdT t) = z := by
  rcases ht with rfl | rfl
  · have h1 : -2147483648 ≤ z := h1
    have h2 : z < 2147483648 := h2
    show sg32 (z % 4294967296 % 4294967296) = z
    unfold sg32; split <;> omega
  · have h1 : -9223372036854775808 ≤ z := h1
    have h2 : z < 9223372036854775808 := h2
    show sg64 (z % 18446744073709551616) = z
    unfold sg64; split <;> omega
theorem emod_le_self (p q : Int) (h : 0 ≤ p) : p % q ≤ p := by
  by_cases h0 : q = 0
  · subst h0; rw [Int.emod_zero]; exact Int.le_refl _
  · have h1 := Int.ediv_mul_add_emod p q
    rcases Int.lt_or_gt_of_ne h0 with hq | hq
    · have : p / q * q = p / -q * -q := by rw [Int.ediv_neg]; rw [Int.neg_mul_neg]
      have h2 : 0 ≤ p / -q * -q := Int.mul_nonneg (Int.ediv_nonneg h (by omega)) (by omega)
      omega
    · have h2 : 0 ≤ p / q * q := Int.mul_nonneg (Int.ediv_nonneg h (by omega)) (by omega)
      omega
theorem tm_facts (p q : Int) (L : Int) (hp1 : -L ≤ p) (hp2 : p < L) (hL : 0 < L) : (-L ≤ p.tmod q ∧ p.tmod q < L) ∧ (p < 0 → p.tmod q ≤ 0) ∧ (0 ≤ p → 0 ≤ p.tmod q) := by
  by_cases h : 0 ≤ p
  · have h1 : 0 ≤ p.tmod q := Int.tmod_nonneg q h
    have h2 : p.tmod q ≤ p := by
      have := Int.tmod_eq_emod_of_nonneg (b := q) h
      rw [this]
      exact emod_le_self p q h
    refine ⟨⟨by omega, by omega⟩, fun h' => by omega, fun _ => h1⟩
  · have hn : 0 ≤ -p := by omega
    have h1 : 0 ≤ (-p).tmod q := Int.tmod_nonneg q hn
    have h2 : (-p).tmod q ≤ -p := by
      have := Int.tmod_eq_emod_of_nonneg (b := q) hn
      rw [this]
      exact emod_le_self (-p) q hn
    rw [Int.neg_tmod] at h1 h2
    refine ⟨⟨by omega, by omega⟩, fun _ => by omega, fun h' => by omega⟩
end Go.Proofs.YtoclfldmkipokaaDoor.Ints
