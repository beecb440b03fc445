/- IntsDivide walked, all ways. -/
import Derived.Test.YtoclfldmkipokaaDoorIntsDiv32u
import Derived.Test.YtoclfldmkipokaaDoorIntsDiv32s
import Derived.Test.YtoclfldmkipokaaDoorIntsDiv64u
import Derived.Test.YtoclfldmkipokaaDoorIntsDiv64s
namespace Go.Proofs.YtoclfldmkipokaaDoor.Ints
open Go.RowKit
set_option maxRecDepth 100000
set_option maxHeartbeats 400000

theorem divide_32u (a b : Int) (w : World) (hT : Tab w) (ha : u64R a) (hb : u64R b) :
    Calls Tryd.prog 7 #[.int .u64 a, .int .u64 b, .bool false, .bool false] w fun e w' => e = .returned (.bool true) ∧ Below w.heap.size w w' := by
  have ht := (show isT 127 from .inl rfl)
  have v1 := callV (t := 127) ha
  have v2 := callV (t := 127) hb
  have hx := loT_in ht ha
  have hy := loT_in ht hb
  revert v1 v2 hx hy
  generalize loT 127 a = x
  generalize loT 127 b = y
  intro v1 v2 hx hy
  by_cases h0 : y = 0
  · subst h0
    exact dA_32u a b x w hT v1 v2 (callD (l := 110) (by decide) (by decide) (by decide) ht hx hy (tr_zero (by omega) (by omega)) (by rw [tr_zero (by omega) (by omega)]; rfl)) (callD (l := 112) (by decide) (by decide) (by decide) ht hx hy (tr_zero (by omega) (by omega)) (by rw [tr_zero (by omega) (by omega)]; rfl))
  · have ub := u_back ht hx hy
    have hr := Int.emod_lt_of_pos x (show 0 < y by have := hy.1; omega)
    exact dC_32u a b x y (x / y) (x % y) (x / y * y) w hT v1 v2 (by simpa using h0) hr (callD0 (l := 110) (by decide) (by decide) (by decide) ht hx hy (tr_nz (by omega) h0) (va110 ht hx hy)) (callD0 (l := 112) (by decide) (by decide) (by decide) ht hx hy (tr_nz (by omega) h0) (va112 ht hy h0))
      (callD0 (l := 108) (by decide) (by decide) (by decide) ht (div_in hx hy) hy (tr_no (by omega)) ((va108 ht).trans ub.1)) (callD0 (l := 106) (by decide) (by decide) (by decide) ht ub.2.2 (rem_in hy h0) (tr_no (by omega)) ((va106 ht).trans ub.2.1))
theorem divide_32s (a b : Int) (w : World) (hT : Tab w) (ha : u64R a) (hb : u64R b) :
    Calls Tryd.prog 7 #[.int .u64 a, .int .u64 b, .bool false, .bool true] w fun e w' => e = .returned (.bool true) ∧ Below w.heap.size w w' := by
  have ht := (show isT 127 from .inl rfl)
  have v1 := callV (t := 127) ha
  have v2 := callV (t := 127) hb
  have hx := loT_in ht ha
  have hy := loT_in ht hb
  revert v1 v2 hx hy
  generalize loT 127 a = x
  generalize loT 127 b = y
  intro v1 v2 hx hy
  by_cases h0 : y = 0
  · subst h0
    exact dA_32s a b x w hT v1 v2 (callD (l := 109) (by decide) (by decide) (by decide) ht hx hy (tr_zero (by omega) (by omega)) (by rw [tr_zero (by omega) (by omega)]; rfl)) (callD (l := 111) (by decide) (by decide) (by decide) ht hx hy (tr_zero (by omega) (by omega)) (by rw [tr_zero (by omega) (by omega)]; rfl))
  · have e0 : (y == 0) = false := by simpa using h0
    have sx := callS (t := 127) (inR_u hx)
    have sy := callS (t := 127) (inR_u hy)
    have rx := sg_rng ht hx
    have tf := tm_facts (sgT 127 x) (sgT 127 y) (leT 127) rx.1 rx.2 (by decide)
    have hsb := s_back ht hx hy
    have hR := callD0 (op := 111) (l := 111) (by decide) (by decide) (by decide) ht hx hy (tr_nz (by omega) h0) (va111 ht)
    by_cases hov : x = leT 127 ∧ sgT 127 y = -1
    · obtain ⟨hx1, hy1⟩ := hov
      have hD := callD (op := 109) (l := 109) (by decide) (by decide) (by decide) ht hx hy (tr_over h0 hx1 hy1) (by rw [tr_over h0 hx1 hy1])
      rw [hy1] at sy hR
      rw [show (sgT 127 x).tmod (-1) % mdT 127 = 0 from by rw [Int.tmod_neg, Int.tmod_one, Int.zero_emod]] at hR
      subst hx1
      exact dB_32s a b y w hT v1 v2 e0 sy hD hR
    · have hD := callD0 (op := 109) (l := 109) (by decide) (by decide) (by decide) ht hx hy (tr_sign h0 hov) (va109 ht)
      have hM := callD0 (op := 108) (l := 108) (by decide) (by decide) (by decide) ht (md_in (n := (sgT 127 x).tdiv (sgT 127 y)) ht) hy (tr_no (by omega)) (va108 ht)
      have hN := callD0 (op := 106) (l := 106) (by decide) (by decide) (by decide) ht (md_in (n := (sgT 127 x).tdiv (sgT 127 y) % mdT 127 * y) ht) (md_in (n := (sgT 127 x).tmod (sgT 127 y)) ht) (tr_no (by omega)) ((va106 ht).trans hsb)
      have sr := callS (t := 127) (inR_u (md_in (n := (sgT 127 x).tmod (sgT 127 y)) ht))
      rw [sg_of ht tf.1.1 tf.1.2] at sr
      have hz : (sgT 127 x).tmod (sgT 127 y) % mdT 127 ≠ 0 → (sgT 127 x).tmod (sgT 127 y) ≠ 0 := fun h h' => h (by rw [h']; rfl)
      by_cases hr0 : (sgT 127 x).tmod (sgT 127 y) % mdT 127 = 0
      · rw [hr0] at hR hN
        by_cases hxl : x = leT 127
        · have hsy : (sgT 127 y == -1) = false := by simp; exact fun h => hov ⟨hxl, h⟩
          subst hxl
          exact dCl0_32s a b y _ _ _ w hT v1 v2 e0 hsy sy hD hR hM hN
        · exact dCn0_32s a b x y _ _ w hT v1 v2 e0 (beq_ne hxl) hD hR hM hN
      · have er : ((sgT 127 x).tmod (sgT 127 y) % mdT 127 == 0) = false := by simpa using hr0
        have hz := hz hr0
        by_cases hn : sgT 127 x < 0
        · have h1 : (sgT 127 x).tmod (sgT 127 y) < 0 := by have := tf.2.1 hn; omega
          by_cases hxl : x = leT 127
          · have hsy : (sgT 127 y == -1) = false := by simp; exact fun h => hov ⟨hxl, h⟩
            subst hxl
            exact dClm_32s a b y _ _ _ _ _ _ w hT v1 v2 e0 hsy sy hD hR hM hN er sr sx h1 hn
          · exact dCnm_32s a b x y _ _ _ _ _ w hT v1 v2 e0 (beq_ne hxl) hD hR hM hN er sr sx h1 hn
        · have hn : 0 ≤ sgT 127 x := by omega
          have h1 : 0 ≤ (sgT 127 x).tmod (sgT 127 y) := tf.2.2 hn
          by_cases hxl : x = leT 127
          · have hsy : (sgT 127 y == -1) = false := by simp; exact fun h => hov ⟨hxl, h⟩
            subst hxl
            exact dClp_32s a b y _ _ _ _ _ _ w hT v1 v2 e0 hsy sy hD hR hM hN er sr sx (decide_eq_false (by omega)) (decide_eq_false (by omega))
          · exact dCnp_32s a b x y _ _ _ _ _ w hT v1 v2 e0 (beq_ne hxl) hD hR hM hN er sr sx (decide_eq_false (by omega)) (decide_eq_false (by omega))
theorem divide_64u (a b : Int) (w : World) (hT : Tab w) (ha : u64R a) (hb : u64R b) :
    Calls Tryd.prog 7 #[.int .u64 a, .int .u64 b, .bool true, .bool false] w fun e w' => e = .returned (.bool true) ∧ Below w.heap.size w w' := by
  have ht := (show isT 126 from .inr rfl)
  have v1 := callV (t := 126) ha
  have v2 := callV (t := 126) hb
  have hx := loT_in ht ha
  have hy := loT_in ht hb
  revert v1 v2 hx hy
  generalize loT 126 a = x
  generalize loT 126 b = y
  intro v1 v2 hx hy
  by_cases h0 : y = 0
  · subst h0
    exact dA_64u a b x w hT v1 v2 (callD (l := 110) (by decide) (by decide) (by decide) ht hx hy (tr_zero (by omega) (by omega)) (by rw [tr_zero (by omega) (by omega)]; rfl)) (callD (l := 112) (by decide) (by decide) (by decide) ht hx hy (tr_zero (by omega) (by omega)) (by rw [tr_zero (by omega) (by omega)]; rfl))
  · have ub := u_back ht hx hy
    have hr := Int.emod_lt_of_pos x (show 0 < y by have := hy.1; omega)
    exact dC_64u a b x y (x / y) (x % y) (x / y * y) w hT v1 v2 (by simpa using h0) hr (callD0 (l := 110) (by decide) (by decide) (by decide) ht hx hy (tr_nz (by omega) h0) (va110 ht hx hy)) (callD0 (l := 112) (by decide) (by decide) (by decide) ht hx hy (tr_nz (by omega) h0) (va112 ht hy h0))
      (callD0 (l := 108) (by decide) (by decide) (by decide) ht (div_in hx hy) hy (tr_no (by omega)) ((va108 ht).trans ub.1)) (callD0 (l := 106) (by decide) (by decide) (by decide) ht ub.2.2 (rem_in hy h0) (tr_no (by omega)) ((va106 ht).trans ub.2.1))
theorem divide_64s (a b : Int) (w : World) (hT : Tab w) (ha : u64R a) (hb : u64R b) :
    Calls Tryd.prog 7 #[.int .u64 a, .int .u64 b, .bool true, .bool true] w fun e w' => e = .returned (.bool true) ∧ Below w.heap.size w w' := by
  have ht := (show isT 126 from .inr rfl)
  have v1 := callV (t := 126) ha
  have v2 := callV (t := 126) hb
  have hx := loT_in ht ha
  have hy := loT_in ht hb
  revert v1 v2 hx hy
  generalize loT 126 a = x
  generalize loT 126 b = y
  intro v1 v2 hx hy
  by_cases h0 : y = 0
  · subst h0
    exact dA_64s a b x w hT v1 v2 (callD (l := 109) (by decide) (by decide) (by decide) ht hx hy (tr_zero (by omega) (by omega)) (by rw [tr_zero (by omega) (by omega)]; rfl)) (callD (l := 111) (by decide) (by decide) (by decide) ht hx hy (tr_zero (by omega) (by omega)) (by rw [tr_zero (by omega) (by omega)]; rfl))
  · have e0 : (y == 0) = false := by simpa using h0
    have sx := callS (t := 126) (inR_u hx)
    have sy := callS (t := 126) (inR_u hy)
    have rx := sg_rng ht hx
    have tf := tm_facts (sgT 126 x) (sgT 126 y) (leT 126) rx.1 rx.2 (by decide)
    have hsb := s_back ht hx hy
    have hR := callD0 (op := 129) (l := 111) (by decide) (by decide) (by decide) ht hx hy (tr_nz (by omega) h0) (va111 ht)
    by_cases hov : x = leT 126 ∧ sgT 126 y = -1
    · obtain ⟨hx1, hy1⟩ := hov
      have hD := callD (op := 127) (l := 109) (by decide) (by decide) (by decide) ht hx hy (tr_over h0 hx1 hy1) (by rw [tr_over h0 hx1 hy1])
      rw [hy1] at sy hR
      rw [show (sgT 126 x).tmod (-1) % mdT 126 = 0 from by rw [Int.tmod_neg, Int.tmod_one, Int.zero_emod]] at hR
      subst hx1
      exact dB_64s a b y w hT v1 v2 e0 sy hD hR
    · have hD := callD0 (op := 127) (l := 109) (by decide) (by decide) (by decide) ht hx hy (tr_sign h0 hov) (va109 ht)
      have hM := callD0 (op := 126) (l := 108) (by decide) (by decide) (by decide) ht (md_in (n := (sgT 126 x).tdiv (sgT 126 y)) ht) hy (tr_no (by omega)) (va108 ht)
      have hN := callD0 (op := 124) (l := 106) (by decide) (by decide) (by decide) ht (md_in (n := (sgT 126 x).tdiv (sgT 126 y) % mdT 126 * y) ht) (md_in (n := (sgT 126 x).tmod (sgT 126 y)) ht) (tr_no (by omega)) ((va106 ht).trans hsb)
      have sr := callS (t := 126) (inR_u (md_in (n := (sgT 126 x).tmod (sgT 126 y)) ht))
      rw [sg_of ht tf.1.1 tf.1.2] at sr
      have hz : (sgT 126 x).tmod (sgT 126 y) % mdT 126 ≠ 0 → (sgT 126 x).tmod (sgT 126 y) ≠ 0 := fun h h' => h (by rw [h']; rfl)
      by_cases hr0 : (sgT 126 x).tmod (sgT 126 y) % mdT 126 = 0
      · rw [hr0] at hR hN
        by_cases hxl : x = leT 126
        · have hsy : (sgT 126 y == -1) = false := by simp; exact fun h => hov ⟨hxl, h⟩
          subst hxl
          exact dCl0_64s a b y _ _ _ w hT v1 v2 e0 hsy sy hD hR hM hN
        · exact dCn0_64s a b x y _ _ w hT v1 v2 e0 (beq_ne hxl) hD hR hM hN
      · have er : ((sgT 126 x).tmod (sgT 126 y) % mdT 126 == 0) = false := by simpa using hr0
        have hz := hz hr0
        by_cases hn : sgT 126 x < 0
        · have h1 : (sgT 126 x).tmod (sgT 126 y) < 0 := by have := tf.2.1 hn; omega
          by_cases hxl : x = leT 126
          · have hsy : (sgT 126 y == -1) = false := by simp; exact fun h => hov ⟨hxl, h⟩
            subst hxl
            exact dClm_64s a b y _ _ _ _ _ _ w hT v1 v2 e0 hsy sy hD hR hM hN er sr sx h1 hn
          · exact dCnm_64s a b x y _ _ _ _ _ w hT v1 v2 e0 (beq_ne hxl) hD hR hM hN er sr sx h1 hn
        · have hn : 0 ≤ sgT 126 x := by omega
          have h1 : 0 ≤ (sgT 126 x).tmod (sgT 126 y) := tf.2.2 hn
          by_cases hxl : x = leT 126
          · have hsy : (sgT 126 y == -1) = false := by simp; exact fun h => hov ⟨hxl, h⟩
            subst hxl
            exact dClp_64s a b y _ _ _ _ _ _ w hT v1 v2 e0 hsy sy hD hR hM hN er sr sx (decide_eq_false (by omega)) (decide_eq_false (by omega))
          · exact dCnp_64s a b x y _ _ _ _ _ w hT v1 v2 e0 (beq_ne hxl) hD hR hM hN er sr sx (decide_eq_false (by omega)) (decide_eq_false (by omega))
theorem divide_any (a b : Int) (wide sign : Bool) (wa : (Lit.int .u64 a).wf = true) (wb : (Lit.int .u64 b).wf = true) (w : World) (hT : Tab w) :
    Calls Tryd.prog 7 #[.int .u64 a, .int .u64 b, .bool wide, .bool sign] w fun e w' => e = .returned (.bool true) ∧ Below w.heap.size w w' := by
  have ha := u64_of wa
  have hb := u64_of wb
  cases wide <;> cases sign
  · exact divide_32u a b w hT ha hb
  · exact divide_32s a b w hT ha hb
  · exact divide_64u a b w hT ha hb
  · exact divide_64s a b w hT ha hb
end Go.Proofs.YtoclfldmkipokaaDoor.Ints
