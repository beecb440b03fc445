/- TypesTold walked: what is told may be, and is laid in no more bytes than it stood in. -/
import Derived.Test.YtnminpbnlcgblaaTypAwake
import Derived.Test.YtnminpbnlcgblaaTypPutR
namespace Go.Proofs.Ytnminpbnlcgblaa.Typ
open Go.RowKit
set_option maxRecDepth 100000
set_option maxHeartbeats 2000000

theorem told_big (A : Option Addr) (n c : Nat) (w : World) (hl : 500 < n) (hm : n ≤ 9223372036854775807) :
    Calls Try.prog 5 #[.slice A n c] w fun e w' => e = .returned (.bool true) ∧ Below w.heap.size w w' := by
  have t1 : decide ((500 : Int) < (n : Int)) = true := by simp; omega
  clear hl hm
  go_enter Try.func5, Try.ntmps5
  go_wp2_with fail
  refine (awake_any _).mono ?_
  rintro e w1 ⟨rfl, hb1⟩
  go_wp2_with fail
  go_ret
  exact ⟨rfl, hb1⟩
theorem told_yy (A : Option Addr) (N c : Nat) (x y K K2 : List Int) (n a b m : Int) (h : Bool) (w : World) (hN : N ≤ 500) (n1 : (K.length : Int) ≤ n) (n2 : n ≤ (N : Int)) (m1 : (K2.length : Int) ≤ m) (m2 : m ≤ (N : Int))
    (hF : ∀ W, Below w.heap.size w W → Calls Try.prog 13 #[.slice A N c, .int .i64 0] W (FnTold x y n 0 W))
    (hL : ∀ W, Below w.heap.size w W → Calls Try.prog 15 #[.slice A N c, .int .i64 0] W (LmTold a b h m 0 W))
    (hP : ∀ W u v, Below w.heap.size w W → Sl W u x → Sl W v y → Calls Try.prog 18 #[.slice none 0 0, .agg #[u, v]] W (LaidE K 0 W))
    (hQ : ∀ W, Below w.heap.size w W → Calls Try.prog 20 #[.slice none 0 0, .agg #[.int .i64 a, .int .i64 b, .bool h]] W (LaidE K2 0 W))
    : Calls Try.prog 5 #[.slice A N c] w fun e w' => e = .returned (.bool true) ∧ Below w.heap.size w w' := by
  have t1 : decide ((500 : Int) < (N : Int)) = false := by simp; omega
  have t2 : decide (n < (K.length : Int)) = false := by simp; omega
  have t3 : decide ((N : Int) < n) = false := by simp; omega
  have t4 : decide (m < (K2.length : Int)) = false := by simp; omega
  have t5 : decide ((N : Int) < m) = false := by simp; omega
  have HF := Lib.hid hF
  have HL := Lib.hid hL
  have HP := Lib.hid hP
  have HQ := Lib.hid hQ
  clear hF hL hP hQ hN n1 n2 m1 m2
  go_enter Try.func5, Try.ntmps5
  go_wp2_with fail
  refine (awake_any _).mono ?_
  rintro e w1 ⟨rfl, hb⟩
  have HW := Lib.hid hb
  clear hb
  go_wp2_with fail
  refine (HF.out _ HW.out).mono ?_
  rintro e w2 ⟨o1, o2, rfl, ho1, ho2, hb⟩
  have HW := Lib.hid (HW.out.trans (hb.mono HW.out.size))
  have HS1 := Lib.hid ho1.sl
  have HS2 := Lib.hid ho2.sl
  obtain ⟨A1, k1, rfl, _⟩ := ho1.sl
  obtain ⟨A2, k2, rfl, _⟩ := ho2.sl
  clear hb ho1 ho2
  go_wp2_with fail
  have HT := Lib.hid ((Below.refl w2.heap.size w2).alloc (Nat.le_refl _) (.cells #[.slice A1 x.length k1, .slice A2 y.length k2] 24))
  refine (HP.out _ _ _ (HW.out.trans (HT.out.mono HW.out.size)) (HS1.out.keep HT.out) (HS2.out.keep HT.out)).mono ?_
  rintro e w3 ⟨v3, rfl, hs3, hb⟩
  have HW := Lib.hid ((HW.out.trans (HT.out.mono HW.out.size)).trans (hb.mono (HW.out.trans (HT.out.mono HW.out.size)).size))
  obtain ⟨A3, k3, rfl, _⟩ := hs3
  clear hb
  go_wp2_with fail
  refine (HL.out _ HW.out).mono ?_
  rintro e w4 ⟨rfl, hb⟩
  have HW := Lib.hid (HW.out.trans (hb.mono HW.out.size))
  clear hb
  go_wp2_with fail
  have HW := Lib.hid (HW.out.trans (((Below.refl w4.heap.size w4).alloc (Nat.le_refl _) (.cells #[.int .i64 a, .int .i64 b, .bool h] 26)).mono HW.out.size))
  refine (HQ.out _ HW.out).mono ?_
  rintro e w5 ⟨v5, rfl, hs5, hb⟩
  have HW := Lib.hid (HW.out.trans (hb.mono HW.out.size))
  obtain ⟨A5, k5, rfl, _⟩ := hs5
  clear hb
  go_wp2_with fail
  go_ret
  exact ⟨rfl, HW.out⟩
theorem told_yn (A : Option Addr) (N c : Nat) (x y K : List Int) (n a b m E2 : Int) (h : Bool) (w : World) (hN : N ≤ 500) (n1 : (K.length : Int) ≤ n) (n2 : n ≤ (N : Int)) (hE2 : (E2 == 0) = false)
    (hF : ∀ W, Below w.heap.size w W → Calls Try.prog 13 #[.slice A N c, .int .i64 0] W (FnTold x y n 0 W))
    (hL : ∀ W, Below w.heap.size w W → Calls Try.prog 15 #[.slice A N c, .int .i64 0] W (LmTold a b h m E2 W))
    (hP : ∀ W u v, Below w.heap.size w W → Sl W u x → Sl W v y → Calls Try.prog 18 #[.slice none 0 0, .agg #[u, v]] W (LaidE K 0 W))
    : Calls Try.prog 5 #[.slice A N c] w fun e w' => e = .returned (.bool true) ∧ Below w.heap.size w w' := by
  have t1 : decide ((500 : Int) < (N : Int)) = false := by simp; omega
  have t2 : decide (n < (K.length : Int)) = false := by simp; omega
  have t3 : decide ((N : Int) < n) = false := by simp; omega
  have HF := Lib.hid hF
  have HL := Lib.hid hL
  have HP := Lib.hid hP
  clear hF hL hP hN n1 n2
  go_enter Try.func5, Try.ntmps5
  go_wp2_with fail
  refine (awake_any _).mono ?_
  rintro e w1 ⟨rfl, hb⟩
  have HW := Lib.hid hb
  clear hb
  go_wp2_with fail
  refine (HF.out _ HW.out).mono ?_
  rintro e w2 ⟨o1, o2, rfl, ho1, ho2, hb⟩
  have HW := Lib.hid (HW.out.trans (hb.mono HW.out.size))
  have HS1 := Lib.hid ho1.sl
  have HS2 := Lib.hid ho2.sl
  obtain ⟨A1, k1, rfl, _⟩ := ho1.sl
  obtain ⟨A2, k2, rfl, _⟩ := ho2.sl
  clear hb ho1 ho2
  go_wp2_with fail
  have HT := Lib.hid ((Below.refl w2.heap.size w2).alloc (Nat.le_refl _) (.cells #[.slice A1 x.length k1, .slice A2 y.length k2] 24))
  refine (HP.out _ _ _ (HW.out.trans (HT.out.mono HW.out.size)) (HS1.out.keep HT.out) (HS2.out.keep HT.out)).mono ?_
  rintro e w3 ⟨v3, rfl, hs3, hb⟩
  have HW := Lib.hid ((HW.out.trans (HT.out.mono HW.out.size)).trans (hb.mono (HW.out.trans (HT.out.mono HW.out.size)).size))
  obtain ⟨A3, k3, rfl, _⟩ := hs3
  clear hb
  go_wp2_with fail
  refine (HL.out _ HW.out).mono ?_
  rintro e w4 ⟨rfl, hb⟩
  have HW := Lib.hid (HW.out.trans (hb.mono HW.out.size))
  clear hb
  go_wp2_with fail
  have HW := Lib.hid (HW.out.trans (((Below.refl w4.heap.size w4).alloc (Nat.le_refl _) (.cells #[.int .i64 a, .int .i64 b, .bool h] 26)).mono HW.out.size))
  go_ret
  exact ⟨rfl, HW.out⟩
theorem told_ny (A : Option Addr) (N c : Nat) (x y K2 : List Int) (n E a b m : Int) (h : Bool) (w : World) (hN : N ≤ 500) (hE : (E == 0) = false) (m1 : (K2.length : Int) ≤ m) (m2 : m ≤ (N : Int))
    (hF : ∀ W, Below w.heap.size w W → Calls Try.prog 13 #[.slice A N c, .int .i64 0] W (FnTold x y n E W))
    (hL : ∀ W, Below w.heap.size w W → Calls Try.prog 15 #[.slice A N c, .int .i64 0] W (LmTold a b h m 0 W))
    (hQ : ∀ W, Below w.heap.size w W → Calls Try.prog 20 #[.slice none 0 0, .agg #[.int .i64 a, .int .i64 b, .bool h]] W (LaidE K2 0 W))
    : Calls Try.prog 5 #[.slice A N c] w fun e w' => e = .returned (.bool true) ∧ Below w.heap.size w w' := by
  have t1 : decide ((500 : Int) < (N : Int)) = false := by simp; omega
  have t4 : decide (m < (K2.length : Int)) = false := by simp; omega
  have t5 : decide ((N : Int) < m) = false := by simp; omega
  have HF := Lib.hid hF
  have HL := Lib.hid hL
  have HQ := Lib.hid hQ
  clear hF hL hQ hN m1 m2
  go_enter Try.func5, Try.ntmps5
  go_wp2_with fail
  refine (awake_any _).mono ?_
  rintro e w1 ⟨rfl, hb⟩
  have HW := Lib.hid hb
  clear hb
  go_wp2_with fail
  refine (HF.out _ HW.out).mono ?_
  rintro e w2 ⟨o1, o2, rfl, ho1, ho2, hb⟩
  have HW := Lib.hid (HW.out.trans (hb.mono HW.out.size))
  have HS1 := Lib.hid ho1.sl
  have HS2 := Lib.hid ho2.sl
  obtain ⟨A1, k1, rfl, _⟩ := ho1.sl
  obtain ⟨A2, k2, rfl, _⟩ := ho2.sl
  clear hb ho1 ho2
  go_wp2_with fail
  have HW := Lib.hid (HW.out.trans (((Below.refl w2.heap.size w2).alloc (Nat.le_refl _) (.cells #[.slice A1 x.length k1, .slice A2 y.length k2] 24)).mono HW.out.size))
  refine (HL.out _ HW.out).mono ?_
  rintro e w4 ⟨rfl, hb⟩
  have HW := Lib.hid (HW.out.trans (hb.mono HW.out.size))
  clear hb
  go_wp2_with fail
  have HW := Lib.hid (HW.out.trans (((Below.refl w4.heap.size w4).alloc (Nat.le_refl _) (.cells #[.int .i64 a, .int .i64 b, .bool h] 26)).mono HW.out.size))
  refine (HQ.out _ HW.out).mono ?_
  rintro e w5 ⟨v5, rfl, hs5, hb⟩
  have HW := Lib.hid (HW.out.trans (hb.mono HW.out.size))
  obtain ⟨A5, k5, rfl, _⟩ := hs5
  clear hb
  go_wp2_with fail
  go_ret
  exact ⟨rfl, HW.out⟩
theorem told_nn (A : Option Addr) (N c : Nat) (x y : List Int) (n E a b m E2 : Int) (h : Bool) (w : World) (hN : N ≤ 500) (hE : (E == 0) = false) (hE2 : (E2 == 0) = false)
    (hF : ∀ W, Below w.heap.size w W → Calls Try.prog 13 #[.slice A N c, .int .i64 0] W (FnTold x y n E W))
    (hL : ∀ W, Below w.heap.size w W → Calls Try.prog 15 #[.slice A N c, .int .i64 0] W (LmTold a b h m E2 W))
    : Calls Try.prog 5 #[.slice A N c] w fun e w' => e = .returned (.bool true) ∧ Below w.heap.size w w' := by
  have t1 : decide ((500 : Int) < (N : Int)) = false := by simp; omega
  have HF := Lib.hid hF
  have HL := Lib.hid hL
  clear hF hL hN
  go_enter Try.func5, Try.ntmps5
  go_wp2_with fail
  refine (awake_any _).mono ?_
  rintro e w1 ⟨rfl, hb⟩
  have HW := Lib.hid hb
  clear hb
  go_wp2_with fail
  refine (HF.out _ HW.out).mono ?_
  rintro e w2 ⟨o1, o2, rfl, ho1, ho2, hb⟩
  have HW := Lib.hid (HW.out.trans (hb.mono HW.out.size))
  have HS1 := Lib.hid ho1.sl
  have HS2 := Lib.hid ho2.sl
  obtain ⟨A1, k1, rfl, _⟩ := ho1.sl
  obtain ⟨A2, k2, rfl, _⟩ := ho2.sl
  clear hb ho1 ho2
  go_wp2_with fail
  have HW := Lib.hid (HW.out.trans (((Below.refl w2.heap.size w2).alloc (Nat.le_refl _) (.cells #[.slice A1 x.length k1, .slice A2 y.length k2] 24)).mono HW.out.size))
  refine (HL.out _ HW.out).mono ?_
  rintro e w4 ⟨rfl, hb⟩
  have HW := Lib.hid (HW.out.trans (hb.mono HW.out.size))
  clear hb
  go_wp2_with fail
  have HW := Lib.hid (HW.out.trans (((Below.refl w4.heap.size w4).alloc (Nat.le_refl _) (.cells #[.int .i64 a, .int .i64 b, .bool h] 26)).mono HW.out.size))
  go_ret
  exact ⟨rfl, HW.out⟩
theorem told_law (a : Option Addr) (len cap : Nat) (zs : List Int) (w : World) (hr : Leb.Came .u8 w a len cap zs) :
    Calls Try.prog 5 #[.slice a len cap] w fun e w' => e = .returned (.bool true) ∧ Below w.heap.size w w' := by
  obtain ⟨p1, p2, p3, _⟩ := came_parts hr
  obtain ⟨s1, b1⟩ := came_sl hr
  by_cases hs : len ≤ 500
  · revert s1 b1 p1
    generalize zs.take len = l
    intro p1 s1 b1
    have hF : ∀ W, Below w.heap.size w W → Calls Try.prog 13 #[.slice a len cap, .int .i64 0] W (FnTold (fn l 0).1 (fn l 0).2.1 (fn l 0).2.2.1 (fn l 0).2.2.2 W) := fun W hW => func_any _ l 0 W b1 (s1.keep hW) (by omega)
    have hL : ∀ W, Below w.heap.size w W → Calls Try.prog 15 #[.slice a len cap, .int .i64 0] W (LmTold (lm l 0).1 (lm l 0).2.1 (lm l 0).2.2.1 (lm l 0).2.2.2.1 (lm l 0).2.2.2.2 W) := fun W hW => lim_any _ l 0 W b1 (s1.keep hW) (by omega)
    have hP : (fn l 0).2.2.2 = 0 → ∀ W u v, Below w.heap.size w W → Sl W u (fn l 0).1 → Sl W v (fn l 0).2.1 → Calls Try.prog 18 #[.slice none 0 0, .agg #[u, v]] W (LaidE ([] ++ fnB (fn l 0).1 (fn l 0).2.1) 0 W) := fun h W u v _ hu hv => by
      have hsn := (fn_told h).1
      obtain ⟨q1, q2, _⟩ := sane_parts hsn
      have := putFunc_any (.slice none 0 0) u v [] _ _ W (Sl.nil W) hu hv (by simp) (by omega) (by omega)
      unfold PfIs at this
      rwa [hsn] at this
    have hQ : (lm l 0).2.2.2.2 = 0 → ∀ W, Below w.heap.size w W → Calls Try.prog 20 #[.slice none 0 0, lv (lm l 0).1 (lm l 0).2.1 (lm l 0).2.2.1] W (LaidE ([] ++ limB (lm l 0).1 (lm l 0).2.1 (lm l 0).2.2.1) 0 W) := fun h W _ => by
      have hok := (lm_told b1 h).1
      have := putLim_any (.slice none 0 0) [] (lm l 0).1 (lm l 0).2.1 (lm l 0).2.2.1 W (Sl.nil W) (by simp)
      unfold PlIs at this
      rwa [hok] at this
    have c1 : (fn l 0).2.2.2 = 0 → ((([] ++ fnB (fn l 0).1 (fn l 0).2.1 : List Int).length : Nat) : Int) ≤ (fn l 0).2.2.1 ∧ (fn l 0).2.2.1 ≤ (len : Int) := fun h => by have := (fn_told h).2; rw [List.nil_append]; omega
    have c2 : (lm l 0).2.2.2.2 = 0 → ((([] ++ limB (lm l 0).1 (lm l 0).2.1 (lm l 0).2.2.1 : List Int).length : Nat) : Int) ≤ (lm l 0).2.2.2.1 ∧ (lm l 0).2.2.2.1 ≤ (len : Int) := fun h => by have := (lm_told b1 h).2; rw [List.nil_append]; omega
    revert hF hP c1
    generalize fn l 0 = F
    obtain ⟨x, y, n, E⟩ := F
    intro hF hP c1
    revert hL hQ c2
    generalize lm l 0 = L
    obtain ⟨la, lb, lh, m, E2⟩ := L
    intro hL hQ c2
    by_cases e1 : E = 0
    · subst e1
      obtain ⟨n1, n2⟩ := c1 rfl
      by_cases e2 : E2 = 0
      · subst e2
        obtain ⟨m1, m2⟩ := c2 rfl
        exact told_yy a len cap x y _ _ n la lb m lh w hs n1 n2 m1 m2 hF hL (hP rfl) (hQ rfl)
      · exact told_yn a len cap x y _ n la lb m E2 lh w hs n1 n2 (by simpa using e2) hF hL (hP rfl)
    · by_cases e2 : E2 = 0
      · subst e2
        obtain ⟨m1, m2⟩ := c2 rfl
        exact told_ny a len cap x y _ n E la lb m lh w hs (by simpa using e1) m1 m2 hF hL (hQ rfl)
      · exact told_nn a len cap x y n E la lb m E2 lh w hs (by simpa using e1) (by simpa using e2) hF hL
  · exact told_big a len cap w (by omega) (by omega)
end Go.Proofs.Ytnminpbnlcgblaa.Typ
