/- IntsDo: what the document's operators give is what the program's give. -/
import Derived.Test.YtoclfldmkipokaaDoorIntsRTwo
import Derived.Test.YtoclfldmkipokaaDoorIntsDoM
import Derived.Test.YtoclfldmkipokaaDoorIntsDivP
namespace Go.Proofs.YtoclfldmkipokaaDoor.Ints
open Go.RowKit
set_option maxRecDepth 100000
set_option maxHeartbeats 1000000

theorem low_is {t a : Int} (ht : isT t) (ha : u64R a) : LowIs (wdT t) a (loT t a) := by
  rcases ht with rfl | rfl
  · exact fun w => low_32 a w ha.1
  · exact fun w => low_64 a w
theorem low_mod {t z : Int} (ht : isT t) : LowIs (wdT t) (IntKind.u64.wrap z) (z % mdT t) := by
  have h := low_is (a := IntKind.u64.wrap z) ht (by rw [IntKind.wrap_u64]; exact modR _)
  rw [IntKind.wrap_u64, loT_mod ht, ← IntKind.wrap_u64] at h
  exact h
theorem sgn_is {t x : Int} (ht : isT t) (hx : inR t x) (w : World) : Calls Tryd.prog 33 #[.int .u64 x, .int .i64 (wdT t)] w fun e w' => e = .returned (.int .i64 (sgT t x)) ∧ w = w' := by
  rcases ht with rfl | rfl
  · obtain ⟨h0, h1⟩ := inR_32 hx
    have h := signed_32 x w h0 h1
    rw [show sgT 127 x = sg32 x from by show sg32 (x % 4294967296) = _; rw [show x % 4294967296 = x from by omega]]
    exact h
  · obtain ⟨h0, h1⟩ := inR_64 hx
    exact signed_64 x w h0 h1
theorem cmp_is {t k x y : Int} (ht : isT t) (hx : inR t x) (hy : inR t y) (h1 : 1 ≤ k) (h2 : k ≤ 10) : CmpIs k x y (wdT t) (cmpN k x y (sgT t x) (sgT t y)) :=
  fun w => compare_of k x y (wdT t) _ _ w h1 h2 (fun W => sgn_is ht hx W) (fun W => sgn_is ht hy W)
theorem ref_to {op a b v t v' t' : Int} {B : Bool} (h : RefIs op a b v t B) (hv : v = v') (ht : t = t') : RefIs op a b v' t' B := by subst hv ht; exact h
/-- Division, all ways. -/
theorem sg_u32 {x : Int} (hx : inR 127 x) : sgT 127 x = sg32 x := by
  obtain ⟨h0, h1⟩ := inR_32 hx
  show sg32 (x % 4294967296) = _
  rw [show x % 4294967296 = x from by omega]
theorem tm_one (z m : Int) : z.tmod (-1) % m = 0 := by rw [Int.tmod_neg, Int.tmod_one, Int.zero_emod]
theorem td_one (z : Int) : z.tdiv (-1) = -z := by rw [Int.tdiv_neg, Int.tdiv_one]
theorem div_is32 {l x y : Int} (hx : inR 127 x) (hy : inR 127 y) (h1 : 109 ≤ l) (h2 : l ≤ 112) : DivIs (l - 109) x y 32 (if trT 127 l x y = 0 then vaL 127 l x y else 0) (trT 127 l x y) := by
  have ht := (show isT 127 from .inl rfl)
  obtain ⟨x0, x1⟩ := inR_32 hx
  obtain ⟨y0, y1⟩ := inR_32 hy
  have ex : sgT 127 x = sg32 x := sg_u32 hx
  have ey : sgT 127 y = sg32 y := sg_u32 hy
  intro w
  by_cases hz : y = 0
  · subst hz
    rw [tr_zero h1 h2]
    exact div32_zero _ x w
  · have hc : l = 109 ∨ l = 110 ∨ l = 111 ∨ l = 112 := by omega
    rcases hc with rfl | rfl | rfl | rfl
    · by_cases hs : sgT 127 y = -1
      · by_cases hl : x = leT 127
        · rw [tr_over hz hl hs]
          exact div32_over x y w x0 x1 y0 y1 (ey ▸ hs) hl
        · rw [tr_sign hz (fun h => hl h.1), if_pos rfl, va109 ht, hs, td_one, ex]
          exact div32_neg x y w x0 x1 y0 y1 (ey ▸ hs) hl
      · rw [tr_sign hz (fun h => hs h.2), if_pos rfl, va109 ht, ex, ey]
        exact div32_s x y w x0 x1 y0 y1 hz (ey ▸ hs)
    · rw [tr_nz (by omega) hz, if_pos rfl, va110 ht hx hy]
      exact div32_u x y w x0 x1 y0 y1 hz
    · rw [tr_nz (by omega) hz, if_pos rfl, va111 ht]
      by_cases hs : sgT 127 y = -1
      · rw [hs, tm_one]
        exact rem32_one x y w x0 x1 y0 y1 (ey ▸ hs)
      · rw [ex, ey]
        exact rem32_s x y w x0 x1 y0 y1 hz (ey ▸ hs)
    · rw [tr_nz (by omega) hz, if_pos rfl, va112 ht hy hz]
      exact rem32_u x y w x0 x1 y0 y1 hz
theorem div_is64 {l x y : Int} (hx : inR 126 x) (hy : inR 126 y) (h1 : 109 ≤ l) (h2 : l ≤ 112) : DivIs (l - 109) x y 64 (if trT 126 l x y = 0 then vaL 126 l x y else 0) (trT 126 l x y) := by
  have ht := (show isT 126 from .inr rfl)
  obtain ⟨x0, x1⟩ := inR_64 hx
  obtain ⟨y0, y1⟩ := inR_64 hy
  have ex : sgT 126 x = sg64 x := rfl
  have ey : sgT 126 y = sg64 y := rfl
  intro w
  by_cases hz : y = 0
  · subst hz
    rw [tr_zero h1 h2]
    exact div64_zero _ x w
  · have hc : l = 109 ∨ l = 110 ∨ l = 111 ∨ l = 112 := by omega
    rcases hc with rfl | rfl | rfl | rfl
    · by_cases hs : sgT 126 y = -1
      · by_cases hl : x = leT 126
        · rw [tr_over hz hl hs]
          exact div64_over x y w x0 x1 y0 y1 (ey ▸ hs) hl
        · rw [tr_sign hz (fun h => hl h.1), if_pos rfl, va109 ht, hs, td_one, ex]
          exact div64_neg x y w x0 x1 y0 y1 (ey ▸ hs) hl
      · rw [tr_sign hz (fun h => hs h.2), if_pos rfl, va109 ht, ex, ey]
        exact div64_s x y w x0 x1 y0 y1 hz (ey ▸ hs)
    · rw [tr_nz (by omega) hz, if_pos rfl, va110 ht hx hy]
      exact div64_u x y w x0 x1 y0 y1 hz
    · rw [tr_nz (by omega) hz, if_pos rfl, va111 ht]
      by_cases hs : sgT 126 y = -1
      · rw [hs, tm_one]
        exact rem64_one x y w x0 x1 y0 y1 (ey ▸ hs)
      · rw [ex, ey]
        exact rem64_s x y w x0 x1 y0 y1 hz (ey ▸ hs)
    · rw [tr_nz (by omega) hz, if_pos rfl, va112 ht hy hz]
      exact rem64_u x y w x0 x1 y0 y1 hz
theorem div_is {t l x y : Int} (ht : isT t) (hx : inR t x) (hy : inR t y) (h1 : 109 ≤ l) (h2 : l ≤ 112) : DivIs (l - 109) x y (wdT t) (if trT t l x y = 0 then vaL t l x y else 0) (trT t l x y) := by
  rcases ht with rfl | rfl
  · exact div_is32 hx hy h1 h2
  · exact div_is64 hx hy h1 h2
/-- Shifted with the sign, as whole numbers. -/
theorem shrs_int (X k W : Nat) (hk : k < W) (hX : X < 2 ^ W) : ((if 2 ^ (W - 1) ≤ X then (X : Int) - ((2 ^ W : Nat) : Int) else (X : Int)) / 2 ^ k) % ((2 ^ W : Nat) : Int) = ((if 2 ^ (W - 1) ≤ X then 2 ^ (W - k) * (2 ^ k - 1) + X / 2 ^ k else X / 2 ^ k : Nat) : Int) := by
  have hd : X / 2 ^ k < 2 ^ (W - k) := by
    rw [Nat.div_lt_iff_lt_mul (Nat.pow_pos (by omega)), ← Nat.pow_add, show W - k + k = W from by omega]
    exact hX
  have hp : 2 ^ W = 2 ^ (W - k) * 2 ^ k := by rw [← Nat.pow_add, show W - k + k = W from by omega]
  have hk0 : 0 < 2 ^ k := Nat.pow_pos (by omega)
  have hmul : 2 ^ (W - k) * (2 ^ k - 1) + 2 ^ (W - k) = 2 ^ W := by
    rw [hp, Nat.mul_sub, Nat.mul_one]
    have : 2 ^ (W - k) ≤ 2 ^ (W - k) * 2 ^ k := Nat.le_mul_of_pos_right _ hk0
    omega
  by_cases h : 2 ^ (W - 1) ≤ X
  · rw [if_pos h, if_pos h]
    have e : (X : Int) - ((2 ^ W : Nat) : Int) = (X : Int) + (-((2 ^ (W - k) : Nat) : Int)) * ((2 ^ k : Nat) : Int) := by
      rw [hp, Int.natCast_mul, Int.neg_mul]; omega
    rw [e, show ((2 : Int) ^ k) = ((2 ^ k : Nat) : Int) from by simp, Int.add_mul_ediv_right _ _ (by omega), show (X : Int) / ((2 ^ k : Nat) : Int) = ((X / 2 ^ k : Nat) : Int) from by simp]
    generalize X / 2 ^ k = q at *
    generalize 2 ^ (W - k) * (2 ^ k - 1) = r at *
    generalize 2 ^ (W - k) = s at *
    generalize 2 ^ W = M at *
    have e2 : (q : Int) + -(s : Int) = ((r + q : Nat) : Int) + (-1) * (M : Int) := by omega
    rw [e2, Int.add_mul_emod_self_right]
    clear e e2 hp
    exact Int.emod_eq_of_lt (by omega) (by omega)
  · rw [if_neg h, if_neg h, show ((2 : Int) ^ k) = ((2 ^ k : Nat) : Int) from by simp, show (X : Int) / ((2 ^ k : Nat) : Int) = ((X / 2 ^ k : Nat) : Int) from by simp]
    have : X / 2 ^ k < 2 ^ W := Nat.lt_of_le_of_lt (Nat.div_le_self _ _) hX
    generalize X / 2 ^ k = q at *
    generalize 2 ^ W = M at *
    exact Int.emod_eq_of_lt (by omega) (by omega)
theorem va117 {t x y : Int} (ht : isT t) (hx : inR t x) : vaL t 117 x y = ((tnR (fShrS x.toNat (kN t y) (wN t)) (wN t) : Nat) : Int) := by
  have hp := in_pow ht hx
  rw [tn_shrs _ _ _ (kN_lt ht y) hp, ← shrs_int _ _ _ (kN_lt ht y) hp, va_r (by omega) (by omega)]
  show loT t (sgT t x / 2 ^ (kN t y) % 18446744073709551616) = _
  rw [loT_mod ht]
  have hxx := Int.toNat_of_nonneg hx.1
  have es : sgT t x = if 2 ^ (wN t - 1) ≤ x.toNat then (x.toNat : Int) - ((2 ^ wN t : Nat) : Int) else (x.toNat : Int) := by
    rw [hxx]
    rcases ht with rfl | rfl
    · rw [sg_u32 hx]
      show sg32 x = if 2147483648 ≤ x.toNat then x - 4294967296 else x
      unfold sg32
      have := hx.1
      by_cases h : 2147483648 ≤ x
      · rw [if_pos h, if_pos (by omega)]
      · rw [if_neg h, if_neg (by omega)]
    · show sg64 x = if 9223372036854775808 ≤ x.toNat then x - 18446744073709551616 else x
      unfold sg64
      have := hx.1
      by_cases h : 9223372036854775808 ≤ x
      · rw [if_pos h, if_pos (by omega)]
      · rw [if_neg h, if_neg (by omega)]
  rw [es, show mdT t = ((2 ^ wN t : Nat) : Int) from by rcases ht with rfl | rfl <;> rfl]
theorem wd_wN {t : Int} (ht : isT t) : ((wN t : Nat) : Int) = wdT t := by rcases ht with rfl | rfl <;> rfl
theorem k_cast {t y : Int} (ht : isT t) : ((kN t y : Nat) : Int) = y % wdT t := by
  rcases ht with rfl | rfl
  · show ((y % 32).toNat : Int) = y % 32; omega
  · show ((y % 64).toNat : Int) = y % 64; omega
theorem trn_shl {t x y : Int} (ht : isT t) (hx : inR t x) : TrnIs 0 x (y % wdT t) (wdT t) (vaL t 116 x y) := by
  intro w
  have hp := in_pow ht hx
  rw [va116 ht hx, ← tn_shl]
  have h := turned_shl x.toNat (kN t y) (wN t) w (toNat_lt hx) (kN_lt ht y) (w_le ht)
  rw [Int.toNat_of_nonneg hx.1, k_cast ht, wd_wN ht] at h
  exact h
theorem trn_shrs {t x y : Int} (ht : isT t) (hx : inR t x) : TrnIs 1 x (y % wdT t) (wdT t) (vaL t 117 x y) := by
  intro w
  have hp := in_pow ht hx
  rw [va117 ht hx]
  have h := turned_shrs x.toNat (kN t y) (wN t) w (toNat_lt hx) (kN_lt ht y) (w_le ht)
  rw [Int.toNat_of_nonneg hx.1, k_cast ht, wd_wN ht] at h
  exact h
theorem trn_shru {t x y : Int} (ht : isT t) (hx : inR t x) : TrnIs 2 x (y % wdT t) (wdT t) (vaL t 118 x y) := by
  intro w
  have hp := in_pow ht hx
  rw [va118 ht hx, ← tn_shru _ _ _ hp]
  have h := turned_shru x.toNat (kN t y) (wN t) w (toNat_lt hx) (kN_lt ht y) (w_le ht)
  rw [Int.toNat_of_nonneg hx.1, k_cast ht, wd_wN ht] at h
  exact h
theorem trn_rotl {t x y : Int} (ht : isT t) (hx : inR t x) : TrnIs 3 x (y % wdT t) (wdT t) (vaL t 119 x y) := by
  intro w
  have hp := in_pow ht hx
  rw [va119 ht hx, ← tn_rotl _ _ _ (kN_lt ht y) hp]
  have h := turned_rotl x.toNat (kN t y) (wN t) w (toNat_lt hx) (kN_lt ht y) (w_le ht)
  rw [Int.toNat_of_nonneg hx.1, k_cast ht, wd_wN ht] at h
  exact h
theorem trn_rotr {t x y : Int} (ht : isT t) (hx : inR t x) : TrnIs 4 x (y % wdT t) (wdT t) (vaL t 120 x y) := by
  intro w
  have hp := in_pow ht hx
  rw [va120 ht hx, ← tn_rotr _ _ _ (kN_lt ht y) hp]
  have h := turned_rotr x.toNat (kN t y) (wN t) w (toNat_lt hx) (kN_lt ht y) (w_le ht)
  rw [Int.toNat_of_nonneg hx.1, k_cast ht, wd_wN ht] at h
  exact h
/-- An operator of two. -/
theorem ref_two (op t l a b : Int) (ha : u64R a) (hb : u64R b) (hB : twB op = true) (hf : famT op = t) (hl : famL op = l) (ht : isT t) (hr : 70 ≤ l ∧ l ≤ 79 ∨ 106 ≤ l ∧ l ≤ 120) (hk : KindIs op (if l ≤ 79 then l - 69 else l - 92) (wdT t)) :
    RefIs op a b (twV op a b) (twT op a b) true := by
  have lx := low_is ht ha
  have ly := low_is ht hb
  have hx := loT_in ht ha
  have hy := loT_in ht hb
  have hv : twV op a b = (if trT t l (loT t a) (loT t b) = 0 then vaL t l (loT t a) (loT t b) else 0) := (tw_dv a b hB hf hl).1
  have htr : twT op a b = trT t l (loT t a) (loT t b) := (tw_dv a b hB hf hl).2
  rw [hv, htr]
  clear hv htr hB hf hl
  revert lx ly hx hy
  generalize loT t a = x
  generalize loT t b = y
  intro lx ly hx hy
  have hc : l = 70 ∨ l = 71 ∨ l = 72 ∨ l = 73 ∨ l = 74 ∨ l = 75 ∨ l = 76 ∨ l = 77 ∨ l = 78 ∨ l = 79 ∨ l = 106 ∨ l = 107 ∨ l = 108 ∨ l = 109 ∨ l = 110 ∨ l = 111 ∨ l = 112 ∨ l = 113 ∨ l = 114 ∨ l = 115 ∨ l = 116 ∨ l = 117 ∨ l = 118 ∨ l = 119 ∨ l = 120 := by omega
  rcases hc with rfl | rfl | rfl | rfl | rfl | rfl | rfl | rfl | rfl | rfl | rfl | rfl | rfl | rfl | rfl | rfl | rfl | rfl | rfl | rfl | rfl | rfl | rfl | rfl | rfl
  · exact ref_to (rtwo_1 op a b _ x y _ hk lx ly (cmp_is ht hx hy (by omega) (by omega))) (by rw [tr_no (by omega), if_pos rfl, va_c (by omega)]; rfl) (tr_no (by omega)).symm
  · exact ref_to (rtwo_2 op a b _ x y _ hk lx ly (cmp_is ht hx hy (by omega) (by omega))) (by rw [tr_no (by omega), if_pos rfl, va_c (by omega)]; rfl) (tr_no (by omega)).symm
  · exact ref_to (rtwo_3 op a b _ x y _ hk lx ly (cmp_is ht hx hy (by omega) (by omega))) (by rw [tr_no (by omega), if_pos rfl, va_c (by omega)]; rfl) (tr_no (by omega)).symm
  · exact ref_to (rtwo_4 op a b _ x y _ hk lx ly (cmp_is ht hx hy (by omega) (by omega))) (by rw [tr_no (by omega), if_pos rfl, va_c (by omega)]; rfl) (tr_no (by omega)).symm
  · exact ref_to (rtwo_5 op a b _ x y _ hk lx ly (cmp_is ht hx hy (by omega) (by omega))) (by rw [tr_no (by omega), if_pos rfl, va_c (by omega)]; rfl) (tr_no (by omega)).symm
  · exact ref_to (rtwo_6 op a b _ x y _ hk lx ly (cmp_is ht hx hy (by omega) (by omega))) (by rw [tr_no (by omega), if_pos rfl, va_c (by omega)]; rfl) (tr_no (by omega)).symm
  · exact ref_to (rtwo_7 op a b _ x y _ hk lx ly (cmp_is ht hx hy (by omega) (by omega))) (by rw [tr_no (by omega), if_pos rfl, va_c (by omega)]; rfl) (tr_no (by omega)).symm
  · exact ref_to (rtwo_8 op a b _ x y _ hk lx ly (cmp_is ht hx hy (by omega) (by omega))) (by rw [tr_no (by omega), if_pos rfl, va_c (by omega)]; rfl) (tr_no (by omega)).symm
  · exact ref_to (rtwo_9 op a b _ x y _ hk lx ly (cmp_is ht hx hy (by omega) (by omega))) (by rw [tr_no (by omega), if_pos rfl, va_c (by omega)]; rfl) (tr_no (by omega)).symm
  · exact ref_to (rtwo_10 op a b _ x y _ hk lx ly (cmp_is ht hx hy (by omega) (by omega))) (by rw [tr_no (by omega), if_pos rfl, va_c (by omega)]; rfl) (tr_no (by omega)).symm
  · exact ref_to (rtwo_14 op a b _ x y _ hk lx ly (low_mod ht)) (by rw [tr_no (by omega), if_pos rfl, va106 ht]) (tr_no (by omega)).symm
  · exact ref_to (rtwo_15 op a b _ x y _ hk lx ly (low_mod ht)) (by rw [tr_no (by omega), if_pos rfl, va107 ht]) (tr_no (by omega)).symm
  · exact ref_to (rtwo_16 op a b _ x y _ hk lx ly (low_mod ht)) (by rw [tr_no (by omega), if_pos rfl, va108 ht]) (tr_no (by omega)).symm
  · exact rtwo_17 op a b _ x y _ _ hk lx ly (div_is (l := 109) ht hx hy (by omega) (by omega))
  · exact rtwo_18 op a b _ x y _ _ hk lx ly (div_is (l := 110) ht hx hy (by omega) (by omega))
  · exact rtwo_19 op a b _ x y _ _ hk lx ly (div_is (l := 111) ht hx hy (by omega) (by omega))
  · exact rtwo_20 op a b _ x y _ _ hk lx ly (div_is (l := 112) ht hx hy (by omega) (by omega))
  · exact ref_to (rtwo_21 op a b _ x y hk lx ly) (by rw [tr_no (by omega), if_pos rfl, va113 ht hx hy]; exact u64_and x y hx.1 (by have := (inR_u hx).2; omega) hy.1 (by have := (inR_u hy).2; omega)) (tr_no (by omega)).symm
  · exact ref_to (rtwo_22 op a b _ x y hk lx ly) (by rw [tr_no (by omega), if_pos rfl, va114 ht hx hy]; exact u64_or x y hx.1 (by have := (inR_u hx).2; omega) hy.1 (by have := (inR_u hy).2; omega)) (tr_no (by omega)).symm
  · exact ref_to (rtwo_23 op a b _ x y hk lx ly) (by rw [tr_no (by omega), if_pos rfl, va115 ht hx hy]; exact u64_xor x y hx.1 (by have := (inR_u hx).2; omega) hy.1 (by have := (inR_u hy).2; omega)) (tr_no (by omega)).symm
  · have tv := trn_shl (y := y) ht hx
    rcases ht with rfl | rfl
    · exact ref_to (rtwo_24_32 op a b x y _ hy.1 hk lx ly tv) (by rw [tr_no (by omega), if_pos rfl]) (tr_no (by omega)).symm
    · exact ref_to (rtwo_24_64 op a b x y _ hy.1 hk lx ly tv) (by rw [tr_no (by omega), if_pos rfl]) (tr_no (by omega)).symm
  · have tv := trn_shrs (y := y) ht hx
    rcases ht with rfl | rfl
    · exact ref_to (rtwo_25_32 op a b x y _ hy.1 hk lx ly tv) (by rw [tr_no (by omega), if_pos rfl]) (tr_no (by omega)).symm
    · exact ref_to (rtwo_25_64 op a b x y _ hy.1 hk lx ly tv) (by rw [tr_no (by omega), if_pos rfl]) (tr_no (by omega)).symm
  · have tv := trn_shru (y := y) ht hx
    rcases ht with rfl | rfl
    · exact ref_to (rtwo_26_32 op a b x y _ hy.1 hk lx ly tv) (by rw [tr_no (by omega), if_pos rfl]) (tr_no (by omega)).symm
    · exact ref_to (rtwo_26_64 op a b x y _ hy.1 hk lx ly tv) (by rw [tr_no (by omega), if_pos rfl]) (tr_no (by omega)).symm
  · have tv := trn_rotl (y := y) ht hx
    rcases ht with rfl | rfl
    · exact ref_to (rtwo_27_32 op a b x y _ hy.1 hk lx ly tv) (by rw [tr_no (by omega), if_pos rfl]) (tr_no (by omega)).symm
    · exact ref_to (rtwo_27_64 op a b x y _ hy.1 hk lx ly tv) (by rw [tr_no (by omega), if_pos rfl]) (tr_no (by omega)).symm
  · have tv := trn_rotr (y := y) ht hx
    rcases ht with rfl | rfl
    · exact ref_to (rtwo_28_32 op a b x y _ hy.1 hk lx ly tv) (by rw [tr_no (by omega), if_pos rfl]) (tr_no (by omega)).symm
    · exact ref_to (rtwo_28_64 op a b x y _ hy.1 hk lx ly tv) (by rw [tr_no (by omega), if_pos rfl]) (tr_no (by omega)).symm
end Go.Proofs.YtoclfldmkipokaaDoor.Ints
