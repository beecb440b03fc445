/- IntsDo walked: what any operator gives of any numbers is what the document says. -/
import Derived.Test.YtoclfldmkipokaaDoorIntsDoA
import Derived.Test.YtoclfldmkipokaaDoorIntsTypesWalk
namespace Go.Proofs.YtoclfldmkipokaaDoor.Ints
open Go.RowKit
set_option maxRecDepth 100000
set_option maxHeartbeats 1000000

theorem do_walk (op a b v u t : Int) (B C : Bool) (w : World) (hT : Tab w) (h1 : CallO op a v B) (h2 : RefOne op a v B) (h3 : CallW op a b u t C) (h4 : RefIs op a b u t C) :
    Calls Tryd.prog 4 #[.int .i64 op, .int .u64 a, .int .u64 b] w fun e w' => e = .returned (.bool true) ∧ Below w.heap.size w w' := by
  have HA := Lib.hid awake_any
  have H1 := Lib.hid h1
  have H2 := Lib.hid h2
  have H3 := Lib.hid h3
  have H4 := Lib.hid h4
  have HT := Lib.hid hT
  clear hT h1 h2 h3 h4
  go_enter Tryd.func4, Tryd.ntmps4
  go_wp2_with fail
  refine (HA.out _ HT.out).mono ?_
  rintro e w1 ⟨rfl, b1⟩
  have HT1 := Lib.hid (HT.out.keep b1)
  go_wp2_with fail
  refine (H1.out _ HT1.out).mono ?_
  rintro e w2 ⟨rfl, b2⟩
  have HT2 := Lib.hid (HT1.out.keep b2)
  go_wp2_with fail
  refine (H2.out _).mono ?_
  rintro e w' ⟨rfl, rfl⟩
  go_wp2_with fail
  refine (H3.out _ HT2.out).mono ?_
  rintro e w3 ⟨rfl, b3⟩
  go_wp2_with fail
  refine (H4.out _).mono ?_
  rintro e w' ⟨rfl, rfl⟩
  go_wp2_with fail
  go_ret
  have c2 := b1.trans (b2.mono b1.size)
  exact ⟨rfl, c2.trans (b3.mono c2.size)⟩
theorem one_to {op a v v' : Int} {B : Bool} (h : RefOne op a v B) (hv : v = v') : RefOne op a v' B := by subst hv; exact h
/-- Counts. -/
theorem cnt_0 {t x : Int} (ht : isT t) (hx : inR t x) : CntIs 0 x (wdT t) (vaL t 103 x (loT t 0)) := by
  intro w
  have hp := in_pow ht hx
  have hu := toNat_lt hx
  have h := counted_clz x.toNat (wN t) w hu (w_le ht)
  rw [clz_len x.toNat hu (wN t) hp (w_le ht), Int.toNat_of_nonneg hx.1, wd_wN ht] at h
  have hv := va103 (y := loT t 0) ht hx
  have hw := wd_wN ht
  rw [hv.1, show wdT t - (Lib.bitLen x.toNat : Int) = ((wN t - Lib.bitLen x.toNat : Nat) : Int) from by have := hv.2; omega]
  exact h
theorem cnt_1 {t x : Int} (ht : isT t) (hx : inR t x) : CntIs 1 x (wdT t) (vaL t 104 x (loT t 0)) := by
  intro w
  have hu := toNat_lt hx
  have h := counted_ctz x.toNat (wN t) w hu (w_le ht)
  rw [ctz_eq x.toNat (wN t) hu (w_le ht), Int.toNat_of_nonneg hx.1, wd_wN ht, ← va104 (y := loT t 0) ht] at h
  exact h
theorem cnt_2 {t x : Int} (ht : isT t) (hx : inR t x) : CntIs 2 x (wdT t) (vaL t 105 x (loT t 0)) := by
  intro w
  have hp := in_pow ht hx
  have hu := toNat_lt hx
  have h := counted_pop x.toNat (wN t) w hu (w_le ht)
  have ht2 := popR_top x.toNat (wN t) (64 - wN t) hp
  rw [show wN t + (64 - wN t) = 64 from by have := w_le ht; omega] at ht2
  rw [← ht2, Int.toNat_of_nonneg hx.1, wd_wN ht, ← va105 (y := loT t 0) ht] at h
  exact h
/-- An operator of one. -/
theorem ref_one (op t l a : Int) (ha : u64R a) (hB : onB op = true) (hf : famT op = t) (hl : famL op = l) (ht : isT t) (e1 : (op == 167) = false) (e2 : (op == 173) = false) (e3 : (op == 172) = false) (hr : l = 69 ∨ 103 ≤ l ∧ l ≤ 105) (hk : KindIs op (if l ≤ 79 then l - 69 else l - 92) (wdT t)) :
    RefOne op a (onV op a) true := by
  have lx := low_is ht ha
  have hx := loT_in ht ha
  rw [show onV op a = vaL t l (loT t a) (loT t 0) from on_nt a hB hf hl (.inl (by omega))]
  have hc : l = 69 ∨ l = 103 ∨ l = 104 ∨ l = 105 := by omega
  rcases hc with rfl | rfl | rfl | rfl
  · exact one_to (rone_0 op a _ _ e1 e2 e3 hk lx) (by rw [va_c (by omega)]; rfl)
  · exact rone_11 op a _ _ _ e1 e2 e3 hk lx (cnt_0 ht hx)
  · exact rone_12 op a _ _ _ e1 e2 e3 hk lx (cnt_1 ht hx)
  · exact rone_13 op a _ _ _ e1 e2 e3 hk lx (cnt_2 ht hx)
theorem ons {op a : Int} (e : onB op = false) : onV op a = 0 := if_neg (by simp [e])
theorem tws {op a b : Int} (e : twB op = false) : twV op a b = 0 ∧ twT op a b = 0 := ⟨if_neg (by simp [e]), if_neg (by simp [e])⟩
theorem on_is {op l : Int} (h1 : famB op = true) (hl : famL op = l) (h2 : tkB l = true) : onB op = true ∧ twB op = false := by
  subst hl
  exact ⟨by simp [onB, h1, h2], by simp [twB, h2]⟩
theorem tw_is {op l : Int} (h1 : famB op = true) (hl : famL op = l) (h2 : tkB l = false) : onB op = false ∧ twB op = true := by
  subst hl
  exact ⟨by simp [onB, h2], by simp [twB, h1, h2]⟩
theorem no_is {op : Int} (h1 : famB op = false) : onB op = false ∧ twB op = false := ⟨by simp [onB, h1], by simp [twB, h1]⟩
/-- Both answers, whatever the code. -/
theorem both (op a b : Int) (ha : u64R a) (hb : u64R b) : RefOne op a (onV op a) (onB op) ∧ RefIs op a b (twV op a b) (twT op a b) (twB op) := by
  -- operators of a width
  have wide : ∀ t l k, isT t → famB op = true → famT op = t → famL op = l → KindIs op k (wdT t) → (69 ≤ l ∧ l ≤ 79 ∧ k = l - 69 ∨ 103 ≤ l ∧ l ≤ 120 ∧ k = l - 92) → op ≤ 138 → RefOne op a (onV op a) (onB op) ∧ RefIs op a b (twV op a b) (twT op a b) (twB op) := by
    intro t l k ht h1 hf hl hk hr ho
    have e1 : (op == 167) = false := ne_b (by omega)
    have e2 : (op == 173) = false := ne_b (by omega)
    have e3 : (op == 172) = false := ne_b (by omega)
    have hk' : KindIs op (if l ≤ 79 then l - 69 else l - 92) (wdT t) := by
      by_cases h : l ≤ 79
      · rw [if_pos h, show l - 69 = k from by omega]; exact hk
      · rw [if_neg h, show l - 92 = k from by omega]; exact hk
    by_cases h2 : tkB l = true
    · obtain ⟨eo, et⟩ := on_is h1 hl h2
      have hl2 : l = 69 ∨ 103 ≤ l ∧ l ≤ 105 := by
        unfold tkB at h2
        simp at h2
        omega
      rw [eo, et, (tws et).1, (tws et).2]
      refine ⟨ref_one op t l a ha eo hf hl ht e1 e2 e3 hl2 hk', ?_⟩
      have hc : l = 69 ∨ l = 103 ∨ l = 104 ∨ l = 105 := by omega
      rcases hc with rfl | rfl | rfl | rfl
      · exact rtwo_lo op a b _ _ hk' (by decide)
      · exact rtwo_11 op a b _ hk'
      · exact rtwo_12 op a b _ hk'
      · exact rtwo_13 op a b _ hk'
    · have h2 : tkB l = false := by simpa using h2
      obtain ⟨eo, et⟩ := tw_is h1 hl h2
      have hl2 : 70 ≤ l ∧ l ≤ 79 ∨ 106 ≤ l ∧ l ≤ 120 := by
        unfold tkB at h2
        simp at h2
        omega
      rw [eo, et, ons eo]
      refine ⟨?_, ref_two op t l a b ha hb et hf hl ht hl2 hk'⟩
      rcases hl2 with h | h
      · exact rone_no op a k _ e1 e2 e3 hk (ne_b (by omega)) (by omega)
      · exact rone_hi op a k _ e1 e2 e3 hk (ne_b (by omega)) (by omega) (decide_eq_false (by omega))
  by_cases h1 : 69 ≤ op ∧ op ≤ 79
  · obtain ⟨f1, f2, f3⟩ := fl_a (.inl h1)
    exact wide 127 op (op - 69) (.inl rfl) f1 f2 f3 (fun W => kind_a op W h1.1 h1.2) (by omega) (by omega)
  · by_cases h2 : 80 ≤ op ∧ op ≤ 90
    · obtain ⟨f1, f2, f3⟩ := fl_b h2
      exact wide 126 (op - 11) (op - 80) (.inr rfl) f1 f2 f3 (fun W => kind_b op W h2.1 h2.2) (by omega) (by omega)
    · by_cases h3 : 103 ≤ op ∧ op ≤ 120
      · obtain ⟨f1, f2, f3⟩ := fl_a (.inr h3)
        exact wide 127 op (op - 92) (.inl rfl) f1 f2 f3 (fun W => kind_c op W h3.1 h3.2) (by omega) (by omega)
      · by_cases h4 : 121 ≤ op ∧ op ≤ 138
        · obtain ⟨f1, f2, f3⟩ := fl_c h4
          exact wide 126 (op - 18) (op - 110) (.inr rfl) f1 f2 f3 (fun W => kind_d op W h4.1 h4.2) (by omega) (by omega)
        · have hk : KindIs op (-1) 0 := fun W => kind_none op W (by unfold noKind; omega)
          have hR : twB op = false → RefIs op a b (twV op a b) (twT op a b) (twB op) := fun et => by
            rw [et, (tws et).1, (tws et).2]
            exact rtwo_lo op a b _ _ hk (by omega)
          have lx : LowIs 32 a (a % 4294967296) := low_is (t := 127) (.inl rfl) ha
          by_cases h5 : op = 167
          · subst h5
            refine ⟨?_, hR (by decide)⟩
            rw [show onB 167 = true from by decide]
            exact one_to (rone_167 a _ _ _ hk lx) (on_nt (t := 126) (l := 167) a (by decide) (by decide) (by decide) (by omega)).symm
          · by_cases h6 : op = 173
            · subst h6
              refine ⟨?_, hR (by decide)⟩
              rw [show onB 173 = true from by decide]
              exact one_to (rone_173 a _ _ _ hk lx) (on_nt (t := 127) (l := 173) a (by decide) (by decide) (by decide) (by omega)).symm
            · by_cases h7 : op = 172
              · subst h7
                refine ⟨?_, hR (by decide)⟩
                rw [show onB 172 = true from by decide]
                have hx : inR 127 (a % 4294967296) := loT_in (t := 127) (.inl rfl) ha
                refine one_to (rone_172 a _ _ _ _ hk lx (fun w => sgn_is (t := 127) (.inl rfl) hx w)) ?_
                rw [on_nt (t := 127) (l := 172) a (by decide) (by decide) (by decide) (by omega), IntKind.wrap_u64]
                rfl
              · have hno : famB op = false := decide_eq_false (by omega)
                obtain ⟨eo, et⟩ := no_is hno
                refine ⟨?_, hR et⟩
                rw [eo, ons eo]
                exact rone_no op a (-1) 0 (ne_b h5) (ne_b h6) (ne_b h7) hk (by decide) (by omega)
theorem do_any (op a b : Int) (wa : (Lit.int .u64 a).wf = true) (wb : (Lit.int .u64 b).wf = true) (w : World) (hT : Tab w) :
    Calls Tryd.prog 4 #[.int .i64 op, .int .u64 a, .int .u64 b] w fun e w' => e = .returned (.bool true) ∧ Below w.heap.size w w' := by
  have ha := u64_of wa
  have hb := u64_of wb
  obtain ⟨h2, h4⟩ := both op a b ha hb
  exact do_walk op a b _ _ _ _ _ w hT (fun W h => one_any op a W h ha) h2 (fun W h => two_any op a b W h ha hb) h4
end Go.Proofs.YtoclfldmkipokaaDoor.Ints
