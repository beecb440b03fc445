/- Limits, laid by the document. -/
import Derived.Test.YtnminpbnlcgblaaTypPutM
namespace Go.Proofs.Ytnminpbnlcgblaa.Typ
open Go.RowKit
set_option maxRecDepth 100000
set_option maxHeartbeats 1000000

theorem own_none1 (w : World) (o : Obj) : Leb.Own ((w.alloc o).alloc (.cells #[] 5)) (w.heap.size + 1) (.slice (some ⟨w.heap.size + 1, 0, none⟩) 0 0) [] := by
  have := Leb.own_none (w.alloc o)
  rw [show (w.alloc o).heap.size = w.heap.size + 1 from by simp] at this
  exact this
theorem rputLim_no (v : Value) (l : List Int) (a b : Int) (h : Bool) (w : World) (ho : okL a b h = false) : Calls Try.prog 21 #[v, lv a b h] w (PlIs l a b h w) := by
  unfold PlIs
  rw [ho]
  have hn : ¬ (0 ≤ a ∧ a ≤ 4294967295 ∧ 0 ≤ b ∧ b ≤ 4294967295 ∧ (h = false → b = 0)) := fun hh => by rw [okL_iff.2 hh] at ho; cases ho
  clear ho
  unfold lv
  by_cases h1 : a < 0
  · have t1 : decide (a < 0) = true := decide_eq_true h1
    clear hn h1
    go_enter Try.func21, Try.ntmps21
    go_wp2_with fail
    go_ret2
    exact ⟨rfl, (Below.refl _ _).alloc (Nat.le_refl _) _⟩
  · have t1 : decide (a < 0) = false := decide_eq_false h1
    by_cases h2 : 4294967295 < a
    · have t2 : decide ((4294967295 : Int) < a) = true := decide_eq_true h2
      clear hn h1 h2
      go_enter Try.func21, Try.ntmps21
      go_wp2_with fail
      go_ret2
      exact ⟨rfl, (Below.refl _ _).alloc (Nat.le_refl _) _⟩
    · have t2 : decide ((4294967295 : Int) < a) = false := decide_eq_false h2
      by_cases h3 : b < 0
      · have t3 : decide (b < 0) = true := decide_eq_true h3
        clear hn h1 h2 h3
        go_enter Try.func21, Try.ntmps21
        go_wp2_with fail
        go_ret2
        exact ⟨rfl, (Below.refl _ _).alloc (Nat.le_refl _) _⟩
      · have t3 : decide (b < 0) = false := decide_eq_false h3
        by_cases h4 : 4294967295 < b
        · have t4 : decide ((4294967295 : Int) < b) = true := decide_eq_true h4
          clear hn h1 h2 h3 h4
          go_enter Try.func21, Try.ntmps21
          go_wp2_with fail
          go_ret2
          exact ⟨rfl, (Below.refl _ _).alloc (Nat.le_refl _) _⟩
        · have t4 : decide ((4294967295 : Int) < b) = false := decide_eq_false h4
          cases h with
          | true => exact absurd ⟨by omega, by omega, by omega, by omega, fun e => by cases e⟩ hn
          | false =>
            have t5 : (b != 0) = true := by
              have : b ≠ 0 := fun e => hn ⟨by omega, by omega, by omega, by omega, fun _ => e⟩
              simpa using this
            clear hn h1 h2 h3 h4
            go_enter Try.func21, Try.ntmps21
            go_wp2_with fail
            go_ret2
            exact ⟨rfl, (Below.refl _ _).alloc (Nat.le_refl _) _⟩
theorem rputLim_false (A0 : Option Addr) (c0 : Nat) (l L4 : List Int) (a : Int) (w : World) (hl : l.length ≤ 10000) (ha0 : 0 ≤ a) (ha1 : a ≤ 4294967295) (hA : Leb.Byt w w.heap.size A0 l)
    (h1 : ∀ W B v, Below w.heap.size w W → Leb.Own W B v ([] ++ l ++ [0]) → Calls Try.prog 36 #[v, .int .u64 a] W (Leb.Laid W L4)) :
    Calls Try.prog 21 #[.slice A0 l.length c0, lv a 0 false] w (LaidE L4 0 w) := by
  have t1 : decide (a < 0) = false := by simp; omega
  have t2 : decide ((4294967295 : Int) < a) = false := by simp; omega
  have wa : IntKind.u64.wrap a = a := by rw [IntKind.wrap_u64]; omega
  have HL := Lib.hid (LvAt.new w a 0 false 26)
  have HA := Lib.hid hA
  have H1 := Lib.hid h1
  clear h1 hA
  unfold lv
  go_enter Try.func21, Try.ntmps21
  go_wp2_with (at_builtin; refine Leb.wp_bytes _ rfl (.tmp 35) (.tmp 36) rfl (w.heap.size + 1) w.heap.size _ [] l rfl (own_none1 w _) A0 c0 rfl (HA.out.keep (((Below.refl _ _).alloc (Nat.le_refl _) _).alloc (by simp) _)) (by simp; omega) (by simp) ?_; intro v2 w2 ho2 hb2; have HO2 := Lib.hid ho2; have HB2 := Lib.hid (((Below.refl (w.heap.size + 1) (w.alloc (.cells #[.int .i64 a, .int .i64 0, .bool false] 26))).alloc (by simp) (.cells #[] 5)).trans hb2); have hs2 : w.heap.size + 1 ≤ w2.heap.size := Nat.le_trans (by simp) HB2.out.size; have k0 := (HB2.out.cell (p := ⟨w.heap.size, 0, none⟩) (Nat.lt_succ_self _)).trans HL.out.2.1; have k2 := (HB2.out.cell (p := ⟨w.heap.size, 2, none⟩) (Nat.lt_succ_self _)).trans HL.out.2.2.2; clear ho2 hb2; go_wp2_with (at_builtin; refine Leb.wp_byte w2 rfl (.tmp 41) (.tmp 42) rfl (w.heap.size + 1) _ ([] ++ l) 0 rfl HO2.out rfl (by simp; omega) hs2 ?_; intro v3 w3 ho3 hb3; have HO3 := Lib.hid ho3; have HB3 := Lib.hid hb3; have k0 := (HB3.out.cell (p := ⟨w.heap.size, 0, none⟩) (Nat.lt_succ_self _)).trans k0; clear ho3 hb3))
  have HW3 : Hid (Below w.heap.size w w3) := ((Below.refl _ _).alloc (Nat.le_refl _) _).trans ((HB2.out.trans HB3.out).mono (by omega))
  refine (H1.out _ _ _ HW3.out HO3.out).mono ?_
  rintro e w4 ⟨v4, rfl, ho4, hb4⟩
  have HS4 := Lib.hid (own_sl ho4)
  have HB4 := Lib.hid (HW3.out.trans (hb4.mono HW3.out.size))
  obtain ⟨⟨g4, d4, rfl⟩, _⟩ := ho4
  clear hb4
  go_wp2_with fail
  go_ret2
  exact ⟨_, rfl, HS4.out, HB4.out⟩
theorem rputLim_true (A0 : Option Addr) (c0 : Nat) (l K1 L4 : List Int) (a b : Int) (w : World) (hl : l.length ≤ 10000) (ha0 : 0 ≤ a) (ha1 : a ≤ 4294967295) (hb0 : 0 ≤ b) (hb1 : b ≤ 4294967295) (hA : Leb.Byt w w.heap.size A0 l)
    (h1 : ∀ W B v, Below w.heap.size w W → Leb.Own W B v ([] ++ l ++ [1]) → Calls Try.prog 36 #[v, .int .u64 a] W (Leb.Laid W K1))
    (h2 : ∀ W B v, Below w.heap.size w W → Leb.Own W B v K1 → Calls Try.prog 36 #[v, .int .u64 b] W (Leb.Laid W L4)) :
    Calls Try.prog 21 #[.slice A0 l.length c0, lv a b true] w (LaidE L4 0 w) := by
  have t1 : decide (a < 0) = false := by simp; omega
  have t2 : decide ((4294967295 : Int) < a) = false := by simp; omega
  have t3 : decide (b < 0) = false := by simp; omega
  have t4 : decide ((4294967295 : Int) < b) = false := by simp; omega
  have wa : IntKind.u64.wrap a = a := by rw [IntKind.wrap_u64]; omega
  have wb : IntKind.u64.wrap b = b := by rw [IntKind.wrap_u64]; omega
  have HL := Lib.hid (LvAt.new w a b true 26)
  have HA := Lib.hid hA
  have H1 := Lib.hid h1
  have H2 := Lib.hid h2
  clear h1 h2 hA
  unfold lv
  go_enter Try.func21, Try.ntmps21
  go_wp2_with (at_builtin; refine Leb.wp_bytes _ rfl (.tmp 35) (.tmp 36) rfl (w.heap.size + 1) w.heap.size _ [] l rfl (own_none1 w _) A0 c0 rfl (HA.out.keep (((Below.refl _ _).alloc (Nat.le_refl _) _).alloc (by simp) _)) (by simp; omega) (by simp) ?_; intro v2 w2 ho2 hb2; have HO2 := Lib.hid ho2; have HB2 := Lib.hid (((Below.refl (w.heap.size + 1) (w.alloc (.cells #[.int .i64 a, .int .i64 b, .bool true] 26))).alloc (by simp) (.cells #[] 5)).trans hb2); have hs2 : w.heap.size + 1 ≤ w2.heap.size := Nat.le_trans (by simp) HB2.out.size; have k0 := (HB2.out.cell (p := ⟨w.heap.size, 0, none⟩) (Nat.lt_succ_self _)).trans HL.out.2.1; have k1 := (HB2.out.cell (p := ⟨w.heap.size, 1, none⟩) (Nat.lt_succ_self _)).trans HL.out.2.2.1; have k2 := (HB2.out.cell (p := ⟨w.heap.size, 2, none⟩) (Nat.lt_succ_self _)).trans HL.out.2.2.2; clear ho2 hb2; go_wp2_with (at_builtin; refine Leb.wp_byte w2 rfl (.tmp 49) (.tmp 50) rfl (w.heap.size + 1) _ ([] ++ l) 1 rfl HO2.out rfl (by simp; omega) hs2 ?_; intro v3 w3 ho3 hb3; have HO3 := Lib.hid ho3; have HB3 := Lib.hid hb3; have k0 := (HB3.out.cell (p := ⟨w.heap.size, 0, none⟩) (Nat.lt_succ_self _)).trans k0; have k1 := (HB3.out.cell (p := ⟨w.heap.size, 1, none⟩) (Nat.lt_succ_self _)).trans k1; clear ho3 hb3))
  have HW3 : Hid (Below w.heap.size w w3) := ((Below.refl _ _).alloc (Nat.le_refl _) _).trans ((HB2.out.trans HB3.out).mono (by omega))
  have hz3 : w.heap.size < w3.heap.size := Nat.lt_of_lt_of_le (Nat.lt_of_succ_le hs2) HB3.out.size
  refine (H1.out _ _ _ HW3.out HO3.out).mono ?_
  rintro e w4 ⟨v4, rfl, ho4, hb4⟩
  have HO4 := Lib.hid ho4
  have k1 := (hb4.cell (p := ⟨w.heap.size, 1, none⟩) hz3).trans k1
  have HW4 := Lib.hid (HW3.out.trans (hb4.mono HW3.out.size))
  clear hb4 ho4 k0 k2
  go_wp2_with fail
  refine (H2.out _ _ _ HW4.out HO4.out).mono ?_
  rintro e w5 ⟨v5, rfl, ho5, hb5⟩
  have HS5 := Lib.hid (own_sl ho5)
  have HB5 := Lib.hid (HW4.out.trans (hb5.mono HW4.out.size))
  obtain ⟨⟨g5, d5, rfl⟩, _⟩ := ho5
  clear hb5
  go_wp2_with fail
  go_ret2
  exact ⟨_, rfl, HS5.out, HB5.out⟩
theorem rputLim_yes (v : Value) (l : List Int) (a b : Int) (h : Bool) (w : World) (hv : Sl w v l) (hl : l.length ≤ 10000) (ho : okL a b h = true) : Calls Try.prog 21 #[v, lv a b h] w (PlIs l a b h w) := by
  obtain ⟨a0, a1, b0, b1, hb0⟩ := okL_iff.1 ho
  unfold PlIs
  rw [ho]
  obtain ⟨A0, c0, rfl, _⟩ := id hv
  obtain ⟨x, rfl⟩ := Int.eq_ofNat_of_zero_le a0
  obtain ⟨y, rfl⟩ := Int.eq_ofNat_of_zero_le b0
  have l1 := uLen x (by omega)
  have hU : ∀ (K : List Int) (n : Nat) (W : World) (B : Nat) (u : Value), K.length ≤ 20000 → n < 18446744073709551616 → Leb.Own W B u K → Calls Try.prog 36 #[u, .int .u64 (n : Int)] W (Leb.Laid W (K ++ Leb.uB n)) := by
    intro K n W B u hK hn ho
    obtain ⟨g, d, rfl, hB⟩ := own_row ho
    exact Leb.refU_any _ d n _ W hB (by omega) hn
  cases h with
  | false =>
    have := hb0 rfl
    obtain rfl : y = 0 := by omega
    have e : l ++ limB (x : Int) ((0 : Nat) : Int) false = [] ++ l ++ [0] ++ Leb.uB x := by unfold limB; simp
    show Calls Try.prog _ _ w (LaidE _ 0 w)
    rw [e]
    exact rputLim_false A0 c0 l _ x w hl (by omega) (by omega) hv.leb (fun W B u _ ho => hU _ x W B u (by simp; omega) (by omega) ho)
  | true =>
    have e : l ++ limB (x : Int) (y : Int) true = [] ++ l ++ [1] ++ Leb.uB x ++ Leb.uB y := by unfold limB; simp
    show Calls Try.prog _ _ w (LaidE _ 0 w)
    rw [e]
    exact rputLim_true A0 c0 l ([] ++ l ++ [1] ++ Leb.uB x) _ x y w hl (by omega) (by omega) (by omega) (by omega) hv.leb (fun W B u _ ho => hU _ x W B u (by simp; omega) (by omega) ho) (fun W B u _ ho => hU _ y W B u (by simp; omega) (by omega) ho)
theorem rputLim_any (v : Value) (l : List Int) (a b : Int) (h : Bool) (w : World) (hv : Sl w v l) (hl : l.length ≤ 10000) : Calls Try.prog 21 #[v, lv a b h] w (PlIs l a b h w) := by
  cases ho : okL a b h with
  | true => exact rputLim_yes v l a b h w hv hl ho
  | false => exact rputLim_no v l a b h w ho
end Go.Proofs.Ytnminpbnlcgblaa.Typ
