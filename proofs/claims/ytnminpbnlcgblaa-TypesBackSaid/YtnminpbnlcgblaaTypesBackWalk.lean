/- TypesBack walked: what is laid behind others is read there as it was; a byte less is too short. -/
import Derived.Test.YtnminpbnlcgblaaTypAwake
import Derived.Test.YtnminpbnlcgblaaTypWith2
import Derived.Test.YtnminpbnlcgblaaTypPutR
namespace Go.Proofs.Ytnminpbnlcgblaa.Typ
open Go.RowKit
set_option maxRecDepth 100000
set_option maxHeartbeats 2000000

/-- New bytes, at least one, and an error. -/
def LaidM (K : List Int) (M : Nat) (w : World) (e : Ending) (w' : World) : Prop := ∃ g off c, e = .returned (.tuple #[.slice (some ⟨g, off, none⟩) (M + 1) c, .int .i64 0]) ∧ Sl w' (.slice (some ⟨g, off, none⟩) (M + 1) c) K ∧ M + 1 ≤ c ∧ c ≤ 9223372036854775807 ∧ Below w.heap.size w w'
theorem LaidE.m {K : List Int} {M : Nat} {w w' : World} {e : Ending} (hK : K.length = M + 1) (h : LaidE K 0 w e w') : LaidM K M w e w' := by
  obtain ⟨v, rfl, hs, hb⟩ := h
  have hs' := hs
  obtain ⟨A, c, rfl, hc, hm, h4⟩ := hs
  obtain ⟨g, off, rfl, _⟩ := h4 (fun e => by rw [e] at hK; simp at hK)
  rw [hK] at hs' hc ⊢
  exact ⟨g, off, c, rfl, hs', hc, hm, hb⟩
theorem cut_sl {w : World} {g off n c : Nat} {K : List Int} {M : Nat} (h : Sl w (.slice (some ⟨g, off, none⟩) n c) K) (hK : K.length = M + 1) : Sl w (.slice (some ⟨g, off, none⟩) M c) (K.take M) := by
  obtain ⟨A, c2, e, hc, hm, h4⟩ := h
  obtain ⟨g2, off2, rfl, hB⟩ := h4 (fun e => by rw [e] at hK; simp at hK)
  injection e with e1 e2 e3
  injection e1 with e1
  injection e1 with e4 e5
  subst e4 e5 e3
  have hl : (K.take M).length = M := by rw [List.length_take]; omega
  exact ⟨_, c, by rw [hl], by rw [hl]; omega, hm, fun _ => ⟨g, off, rfl, hB.take M⟩⟩
theorem cut_run (g off M c : Nat) (hc : M + 1 ≤ c) (W : World) : (Instr.sliceAt 22 (.slice (some ⟨g, off, none⟩) (M + 1) c) none (some (.int .i64 (M : Int))) none).run Try.prog W = .ok (.slice (some ⟨g, off, none⟩) M c) W := by
  have e0 : (0 : Int) ≤ (M : Int) := by omega
  have e2 : (M : Int) ≤ (c : Int) := by omega
  go_simp
theorem back_big (A A1 A2 : Option Addr) (n c n1 n2 c1 c2 : Nat) (a b : Int) (h : Bool) (w : World) (hl : 100 < n) :
    Calls Try.prog 4 #[.slice A n c, .agg #[.slice A1 n1 c1, .slice A2 n2 c2], .agg #[.int .i64 a, .int .i64 b, .bool h]] w fun e w' => e = .returned (.bool true) ∧ Below w.heap.size w w' := by
  have t1 : decide ((100 : Int) < (n : Int)) = true := by simp; omega
  have W0 : Hid (Below w.heap.size w ((w.alloc (.cells #[.slice A1 n1 c1, .slice A2 n2 c2] 24)).alloc (.cells #[.int .i64 a, .int .i64 b, .bool h] 26))) := ((Below.refl _ _).alloc (Nat.le_refl _) _).alloc (by simp) _
  clear hl
  go_enter Try.func4, Try.ntmps4
  go_wp2_with fail
  refine (awake_any _).mono ?_
  rintro e w1 ⟨rfl, hb1⟩
  have HW := Lib.hid (W0.out.trans (hb1.mono W0.out.size))
  clear hb1
  go_wp2_with fail
  go_ret
  exact ⟨rfl, HW.out⟩
theorem back_large (A A1 A2 : Option Addr) (n c n1 n2 c1 c2 : Nat) (a b : Int) (h : Bool) (w : World) (hl : n ≤ 100) (hs : smB n1 n2 = false) :
    Calls Try.prog 4 #[.slice A n c, .agg #[.slice A1 n1 c1, .slice A2 n2 c2], .agg #[.int .i64 a, .int .i64 b, .bool h]] w fun e w' => e = .returned (.bool true) ∧ Below w.heap.size w w' := by
  have t1 : decide ((100 : Int) < (n : Int)) = false := by simp; omega
  have HSm := Lib.hid (fun W => small_any A1 A2 n1 n2 c1 c2 W)
  rw [hs] at HSm
  have HW0 : Hid (Below w.heap.size w ((w.alloc (.cells #[.slice A1 n1 c1, .slice A2 n2 c2] 24)).alloc (.cells #[.int .i64 a, .int .i64 b, .bool h] 26))) := ((Below.refl _ _).alloc (Nat.le_refl _) _).alloc (by simp) _
  have HT0 := Lib.hid ((FtAt.at_ w w.heap.size (.slice A1 n1 c1) (.slice A2 n2 c2) 24 rfl rfl rfl).keep ((Below.refl _ _).alloc (Nat.le_refl _) (.cells #[.int .i64 a, .int .i64 b, .bool h] 26)))
  have HL0 := Lib.hid (LvAt.at_ (w.alloc (.cells #[.slice A1 n1 c1, .slice A2 n2 c2] 24)) (w.heap.size + 1) a b h 26 (by simp))
  clear hl hs
  go_enter Try.func4, Try.ntmps4
  go_wp2_with fail
  refine (awake_any _).mono ?_
  rintro e w1 ⟨rfl, hb⟩
  have HW := Lib.hid (HW0.out.trans (hb.mono HW0.out.size))
  have HT0 := Lib.hid (HT0.out.keep hb)
  have HL0 := Lib.hid (HL0.out.keep hb)
  clear hb
  obtain ⟨qHT0_0, _, _, qHT0_1, qHT0_2⟩ := HT0.out
  obtain ⟨qHL0_0, qHL0_1, qHL0_2, qHL0_3⟩ := HL0.out
  go_wp2_with fail
  refine (HSm.out _).mono ?_
  rintro e wN1 ⟨rfl, hb⟩
  clear qHT0_1 qHT0_2 qHL0_1 qHL0_2 qHL0_3
  have hbb := hb
  have HW := Lib.hid (HW.out.trans (hbb.mono HW.out.size))
  have HT0 := Lib.hid (HT0.out.keep hbb)
  have HL0 := Lib.hid (HL0.out.keep hbb)
  clear hb hbb
  obtain ⟨qHT0_0, _, _, qHT0_1, qHT0_2⟩ := HT0.out
  obtain ⟨qHL0_0, qHL0_1, qHL0_2, qHL0_3⟩ := HL0.out
  go_wp2_with fail
  go_ret
  exact ⟨rfl, HW.out⟩
theorem back_yy (A A1 A2 : Option Addr) (n c n1 n2 c1 c2 : Nat) (p r K K2 : List Int) (M M2 _z : Nat) (a b : Int) (h : Bool) (w : World) (hl : n ≤ 100) (hsm : smB n1 n2 = true) (hM0 : 0 < M) (hM : M ≤ 100000) (hM20 : 0 < M2) (hM2 : M2 ≤ 100000)
    (hP : ∀ W, Below w.heap.size w W → Calls Try.prog 18 #[.slice A n c, .agg #[.slice A1 n1 c1, .slice A2 n2 c2]] W (LaidM K M W))
    (hF : ∀ W g off d, Below w.heap.size w W → Sl W (.slice (some ⟨g, off, none⟩) (M + 1) d) K → Calls Try.prog 13 #[.slice (some ⟨g, off, none⟩) (M + 1) d, .int .i64 (n : Int)] W (FnTold p r ((M : Int) + 1) 0 W))
    (hG : ∀ W g off d, Below w.heap.size w W → Sl W (.slice (some ⟨g, off, none⟩) (M + 1) d) K → Calls Try.prog 13 #[.slice (some ⟨g, off, none⟩) M d, .int .i64 (n : Int)] W (FnTold [] [] 0 2 W))
    (hS : ∀ W u v, Below w.heap.size w W → Sl W u p → Sl W v r → Calls Try.prog 24 #[.agg #[u, v], .agg #[.slice A1 n1 c1, .slice A2 n2 c2]] W fun e w' => e = .returned (.bool true) ∧ Below W.heap.size W w')
    (hN : ∀ W u v, Below w.heap.size w W → Sl W u p → Sl W v r → Calls Try.prog 22 #[.agg #[u, v]] W fun e w' => e = .returned (.bool true) ∧ Below W.heap.size W w')
    (hQ : ∀ W, Below w.heap.size w W → Calls Try.prog 20 #[.slice A n c, .agg #[.int .i64 a, .int .i64 b, .bool h]] W (LaidM K2 M2 W))
    (hL : ∀ W g off d, Below w.heap.size w W → Sl W (.slice (some ⟨g, off, none⟩) (M2 + 1) d) K2 → Calls Try.prog 15 #[.slice (some ⟨g, off, none⟩) (M2 + 1) d, .int .i64 (n : Int)] W (LmTold a b h ((M2 : Int) + 1) 0 W))
    (hI : ∀ W g off d, Below w.heap.size w W → Sl W (.slice (some ⟨g, off, none⟩) (M2 + 1) d) K2 → Calls Try.prog 15 #[.slice (some ⟨g, off, none⟩) M2 d, .int .i64 (n : Int)] W (LmTold 0 0 false 0 2 W))
    (hT : ∀ W, Below w.heap.size w W → Calls Try.prog 22 #[.agg #[.slice A1 n1 c1, .slice A2 n2 c2]] W fun e w' => e = .returned (.bool true) ∧ Below W.heap.size W w')
    : Calls Try.prog 4 #[.slice A n c, .agg #[.slice A1 n1 c1, .slice A2 n2 c2], .agg #[.int .i64 a, .int .i64 b, .bool h]] w fun e w' => e = .returned (.bool true) ∧ Below w.heap.size w w' := by
  have t1 : decide ((100 : Int) < (n : Int)) = false := by simp; omega
  have HSm := Lib.hid (fun W => small_any A1 A2 n1 n2 c1 c2 W)
  rw [hsm] at HSm
  have m0 : (0 : Int) < (M : Int) := by omega
  have m1 : IntKind.i64.wrap ((M : Int) + 1 - 1) = (M : Int) := by rw [IntKind.wrap_i64]; omega
  have k0 : (0 : Int) < (M2 : Int) := by omega
  have k1 : IntKind.i64.wrap ((M2 : Int) + 1 - 1) = (M2 : Int) := by rw [IntKind.wrap_i64]; omega
  have HP := Lib.hid hP
  have HF := Lib.hid hF
  have HG := Lib.hid hG
  have HS := Lib.hid hS
  have HN := Lib.hid hN
  have HQ := Lib.hid hQ
  have HL := Lib.hid hL
  have HI := Lib.hid hI
  have HTT := Lib.hid hT
  have HW0 : Hid (Below w.heap.size w ((w.alloc (.cells #[.slice A1 n1 c1, .slice A2 n2 c2] 24)).alloc (.cells #[.int .i64 a, .int .i64 b, .bool h] 26))) := ((Below.refl _ _).alloc (Nat.le_refl _) _).alloc (by simp) _
  have HT0 := Lib.hid ((FtAt.at_ w w.heap.size (.slice A1 n1 c1) (.slice A2 n2 c2) 24 rfl rfl rfl).keep ((Below.refl _ _).alloc (Nat.le_refl _) (.cells #[.int .i64 a, .int .i64 b, .bool h] 26)))
  have HL0 := Lib.hid (LvAt.at_ (w.alloc (.cells #[.slice A1 n1 c1, .slice A2 n2 c2] 24)) (w.heap.size + 1) a b h 26 (by simp))
  clear hP hF hG hS hN hQ hL hI hT hsm hl
  go_enter Try.func4, Try.ntmps4
  go_wp2_with fail
  refine (awake_any _).mono ?_
  rintro e w1 ⟨rfl, hb⟩
  have HW := Lib.hid (HW0.out.trans (hb.mono HW0.out.size))
  have HT0 := Lib.hid (HT0.out.keep hb)
  have HL0 := Lib.hid (HL0.out.keep hb)
  clear hb
  obtain ⟨qHT0_0, _, _, qHT0_1, qHT0_2⟩ := HT0.out
  obtain ⟨qHL0_0, qHL0_1, qHL0_2, qHL0_3⟩ := HL0.out
  go_wp2_with fail
  refine (HSm.out _).mono ?_
  rintro e wN1 ⟨rfl, hb⟩
  clear qHT0_1 qHT0_2 qHL0_1 qHL0_2 qHL0_3
  have hbb := hb
  have HW := Lib.hid (HW.out.trans (hbb.mono HW.out.size))
  have HT0 := Lib.hid (HT0.out.keep hbb)
  have HL0 := Lib.hid (HL0.out.keep hbb)
  clear hb hbb
  obtain ⟨qHT0_0, _, _, qHT0_1, qHT0_2⟩ := HT0.out
  obtain ⟨qHL0_0, qHL0_1, qHL0_2, qHL0_3⟩ := HL0.out
  go_wp2_with fail
  refine (HP.out _ HW.out).mono ?_
  rintro e wN2 ⟨g1, f1, d1, rfl, hs, hd1, hd2, hb⟩
  clear qHT0_1 qHT0_2 qHL0_1 qHL0_2 qHL0_3
  have hbb := hb
  have HW := Lib.hid (HW.out.trans (hbb.mono HW.out.size))
  have HT0 := Lib.hid (HT0.out.keep hbb)
  have HL0 := Lib.hid (HL0.out.keep hbb)
  have HK := Lib.hid hs
  have hsl1 := cut_run g1 f1 M d1 hd1
  clear hs
  clear hb hbb
  obtain ⟨qHT0_0, _, _, qHT0_1, qHT0_2⟩ := HT0.out
  obtain ⟨qHL0_0, qHL0_1, qHL0_2, qHL0_3⟩ := HL0.out
  go_wp2_with fail
  refine (HF.out _ _ _ _ HW.out HK.out).mono ?_
  rintro e wN3 ⟨o1, o2, rfl, ho1, ho2, hb⟩
  clear qHT0_1 qHT0_2 qHL0_1 qHL0_2 qHL0_3
  have hbb := hb
  have HW := Lib.hid (HW.out.trans (hbb.mono HW.out.size))
  have HT0 := Lib.hid (HT0.out.keep hbb)
  have HL0 := Lib.hid (HL0.out.keep hbb)
  have HK := Lib.hid (HK.out.keep hbb)
  have HX := Lib.hid ho1.sl
  have HY := Lib.hid ho2.sl
  obtain ⟨P1, j1, rfl, _⟩ := ho1.sl
  obtain ⟨P2, j2, rfl, _⟩ := ho2.sl
  clear ho1 ho2
  clear hb hbb
  obtain ⟨qHT0_0, _, _, qHT0_1, qHT0_2⟩ := HT0.out
  obtain ⟨qHL0_0, qHL0_1, qHL0_2, qHL0_3⟩ := HL0.out
  have HT := Lib.hid ((Below.refl wN3.heap.size wN3).alloc (Nat.le_refl _) (.cells #[.slice P1 p.length j1, .slice P2 r.length j2] 24))
  go_wp2_with fail
  refine (HG.out _ _ _ _ (HW.out.trans (HT.out.mono HW.out.size)) (HK.out.keep HT.out)).mono ?_
  rintro e wN4 ⟨o3, o4, rfl, ho3, ho4, hb⟩
  clear qHT0_1 qHT0_2 qHL0_1 qHL0_2 qHL0_3
  have hbb := HT.out.trans (hb.mono HT.out.size)
  have HT1 := Lib.hid ((FtAt.at_ wN3 wN3.heap.size (.slice P1 p.length j1) (.slice P2 r.length j2) 24 rfl rfl rfl).keep hb)
  have HW := Lib.hid (HW.out.trans (hbb.mono HW.out.size))
  have HT0 := Lib.hid (HT0.out.keep hbb)
  have HL0 := Lib.hid (HL0.out.keep hbb)
  have HK := Lib.hid (HK.out.keep hbb)
  have HX := Lib.hid (HX.out.keep hbb)
  have HY := Lib.hid (HY.out.keep hbb)
  obtain ⟨P3, j3, rfl, _⟩ := ho3.sl
  obtain ⟨P4, j4, rfl, _⟩ := ho4.sl
  clear ho3 ho4 hsl1
  clear hb hbb
  obtain ⟨qHT0_0, _, _, qHT0_1, qHT0_2⟩ := HT0.out
  obtain ⟨qHL0_0, qHL0_1, qHL0_2, qHL0_3⟩ := HL0.out
  obtain ⟨qHT1_0, _, _, qHT1_1, qHT1_2⟩ := HT1.out
  have HT := Lib.hid ((Below.refl wN4.heap.size wN4).alloc (Nat.le_refl _) (.cells #[.slice P3 0 j3, .slice P4 0 j4] 24))
  go_wp2_with fail
  refine (HS.out _ _ _ (HW.out.trans (HT.out.mono HW.out.size)) (HX.out.keep HT.out) (HY.out.keep HT.out)).mono ?_
  rintro e wN5 ⟨rfl, hb⟩
  clear qHT0_1 qHT0_2 qHL0_1 qHL0_2 qHL0_3 qHT1_1 qHT1_2
  have hbb := HT.out.trans (hb.mono HT.out.size)
  have HW := Lib.hid (HW.out.trans (hbb.mono HW.out.size))
  have HT0 := Lib.hid (HT0.out.keep hbb)
  have HL0 := Lib.hid (HL0.out.keep hbb)
  have HK := Lib.hid (HK.out.keep hbb)
  have HX := Lib.hid (HX.out.keep hbb)
  have HY := Lib.hid (HY.out.keep hbb)
  have HT1 := Lib.hid (HT1.out.keep hbb)
  clear hb hbb
  obtain ⟨qHT0_0, _, _, qHT0_1, qHT0_2⟩ := HT0.out
  obtain ⟨qHL0_0, qHL0_1, qHL0_2, qHL0_3⟩ := HL0.out
  obtain ⟨qHT1_0, _, _, qHT1_1, qHT1_2⟩ := HT1.out
  go_wp2_with fail
  refine (HN.out _ _ _ HW.out HX.out HY.out).mono ?_
  rintro e wN6 ⟨rfl, hb⟩
  clear qHT0_1 qHT0_2 qHL0_1 qHL0_2 qHL0_3 qHT1_1 qHT1_2
  have hbb := hb
  have HW := Lib.hid (HW.out.trans (hbb.mono HW.out.size))
  have HT0 := Lib.hid (HT0.out.keep hbb)
  have HL0 := Lib.hid (HL0.out.keep hbb)
  have HK := Lib.hid (HK.out.keep hbb)
  have HX := Lib.hid (HX.out.keep hbb)
  have HY := Lib.hid (HY.out.keep hbb)
  have HT1 := Lib.hid (HT1.out.keep hbb)
  clear hb hbb
  obtain ⟨qHT0_0, _, _, qHT0_1, qHT0_2⟩ := HT0.out
  obtain ⟨qHL0_0, qHL0_1, qHL0_2, qHL0_3⟩ := HL0.out
  obtain ⟨qHT1_0, _, _, qHT1_1, qHT1_2⟩ := HT1.out
  clear qHT1_1 qHT1_2
  clear HT1
  clear HK
  clear HX
  clear HY
  go_wp2_with fail
  refine (HQ.out _ HW.out).mono ?_
  rintro e wN7 ⟨g2, f2, e2, rfl, hs, hd3, hd4, hb⟩
  clear qHT0_1 qHT0_2 qHL0_1 qHL0_2 qHL0_3
  have hbb := hb
  have HW := Lib.hid (HW.out.trans (hbb.mono HW.out.size))
  have HT0 := Lib.hid (HT0.out.keep hbb)
  have HL0 := Lib.hid (HL0.out.keep hbb)
  have HK2 := Lib.hid hs
  have hsl2 := cut_run g2 f2 M2 e2 hd3
  clear hs
  clear hb hbb
  obtain ⟨qHT0_0, _, _, qHT0_1, qHT0_2⟩ := HT0.out
  obtain ⟨qHL0_0, qHL0_1, qHL0_2, qHL0_3⟩ := HL0.out
  go_wp2_with fail
  refine (HL.out _ _ _ _ HW.out HK2.out).mono ?_
  rintro e wN8 ⟨rfl, hb⟩
  clear qHT0_1 qHT0_2 qHL0_1 qHL0_2 qHL0_3
  have hbb := hb
  have HW := Lib.hid (HW.out.trans (hbb.mono HW.out.size))
  have HT0 := Lib.hid (HT0.out.keep hbb)
  have HL0 := Lib.hid (HL0.out.keep hbb)
  have HK2 := Lib.hid (HK2.out.keep hbb)
  clear hb hbb
  obtain ⟨qHT0_0, _, _, qHT0_1, qHT0_2⟩ := HT0.out
  obtain ⟨qHL0_0, qHL0_1, qHL0_2, qHL0_3⟩ := HL0.out
  have HT := Lib.hid ((Below.refl wN8.heap.size wN8).alloc (Nat.le_refl _) (.cells #[.int .i64 a, .int .i64 b, .bool h] 26))
  go_wp2_with fail
  refine (HI.out _ _ _ _ (HW.out.trans (HT.out.mono HW.out.size)) (HK2.out.keep HT.out)).mono ?_
  rintro e wN9 ⟨rfl, hb⟩
  clear qHT0_1 qHT0_2 qHL0_1 qHL0_2 qHL0_3
  have hbb := HT.out.trans (hb.mono HT.out.size)
  have HL1 := Lib.hid ((LvAt.at_ wN8 wN8.heap.size a b h 26 rfl).keep hb)
  have HW := Lib.hid (HW.out.trans (hbb.mono HW.out.size))
  have HT0 := Lib.hid (HT0.out.keep hbb)
  have HL0 := Lib.hid (HL0.out.keep hbb)
  have HK2 := Lib.hid (HK2.out.keep hbb)
  clear hsl2
  clear hb hbb
  obtain ⟨qHT0_0, _, _, qHT0_1, qHT0_2⟩ := HT0.out
  obtain ⟨qHL0_0, qHL0_1, qHL0_2, qHL0_3⟩ := HL0.out
  obtain ⟨qHL1_0, qHL1_1, qHL1_2, qHL1_3⟩ := HL1.out
  have HT := Lib.hid ((Below.refl wN9.heap.size wN9).alloc (Nat.le_refl _) (.cells #[.int .i64 0, .int .i64 0, .bool false] 26))
  go_wp2_with fail
  refine (HTT.out _ (HW.out.trans (HT.out.mono HW.out.size))).mono ?_
  rintro e wN10 ⟨rfl, hb⟩
  clear qHT0_1 qHT0_2 qHL0_1 qHL0_2 qHL0_3 qHL1_1 qHL1_2 qHL1_3
  have hbb := HT.out.trans (hb.mono HT.out.size)
  have HW := Lib.hid (HW.out.trans (hbb.mono HW.out.size))
  have HT0 := Lib.hid (HT0.out.keep hbb)
  have HL0 := Lib.hid (HL0.out.keep hbb)
  have HK2 := Lib.hid (HK2.out.keep hbb)
  have HL1 := Lib.hid (HL1.out.keep hbb)
  clear hb hbb
  obtain ⟨qHT0_0, _, _, qHT0_1, qHT0_2⟩ := HT0.out
  obtain ⟨qHL0_0, qHL0_1, qHL0_2, qHL0_3⟩ := HL0.out
  obtain ⟨qHL1_0, qHL1_1, qHL1_2, qHL1_3⟩ := HL1.out
  go_wp2_with fail
  go_ret
  exact ⟨rfl, HW.out⟩
theorem back_yn (A A1 A2 : Option Addr) (n c n1 n2 c1 c2 : Nat) (p r K : List Int) (M _z : Nat) (a b : Int) (h : Bool) (w : World) (hl : n ≤ 100) (hsm : smB n1 n2 = true) (hM0 : 0 < M) (hM : M ≤ 100000)
    (hP : ∀ W, Below w.heap.size w W → Calls Try.prog 18 #[.slice A n c, .agg #[.slice A1 n1 c1, .slice A2 n2 c2]] W (LaidM K M W))
    (hF : ∀ W g off d, Below w.heap.size w W → Sl W (.slice (some ⟨g, off, none⟩) (M + 1) d) K → Calls Try.prog 13 #[.slice (some ⟨g, off, none⟩) (M + 1) d, .int .i64 (n : Int)] W (FnTold p r ((M : Int) + 1) 0 W))
    (hG : ∀ W g off d, Below w.heap.size w W → Sl W (.slice (some ⟨g, off, none⟩) (M + 1) d) K → Calls Try.prog 13 #[.slice (some ⟨g, off, none⟩) M d, .int .i64 (n : Int)] W (FnTold [] [] 0 2 W))
    (hS : ∀ W u v, Below w.heap.size w W → Sl W u p → Sl W v r → Calls Try.prog 24 #[.agg #[u, v], .agg #[.slice A1 n1 c1, .slice A2 n2 c2]] W fun e w' => e = .returned (.bool true) ∧ Below W.heap.size W w')
    (hN : ∀ W u v, Below w.heap.size w W → Sl W u p → Sl W v r → Calls Try.prog 22 #[.agg #[u, v]] W fun e w' => e = .returned (.bool true) ∧ Below W.heap.size W w')
    (hQ : ∀ W, Below w.heap.size w W → Calls Try.prog 20 #[.slice A n c, .agg #[.int .i64 a, .int .i64 b, .bool h]] W fun e w' => e = .returned (.tuple #[.slice none 0 0, .int .i64 1]) ∧ Below W.heap.size W w')
    (hT : ∀ W, Below w.heap.size w W → Calls Try.prog 22 #[.agg #[.slice A1 n1 c1, .slice A2 n2 c2]] W fun e w' => e = .returned (.bool true) ∧ Below W.heap.size W w')
    : Calls Try.prog 4 #[.slice A n c, .agg #[.slice A1 n1 c1, .slice A2 n2 c2], .agg #[.int .i64 a, .int .i64 b, .bool h]] w fun e w' => e = .returned (.bool true) ∧ Below w.heap.size w w' := by
  have t1 : decide ((100 : Int) < (n : Int)) = false := by simp; omega
  have HSm := Lib.hid (fun W => small_any A1 A2 n1 n2 c1 c2 W)
  rw [hsm] at HSm
  have m0 : (0 : Int) < (M : Int) := by omega
  have m1 : IntKind.i64.wrap ((M : Int) + 1 - 1) = (M : Int) := by rw [IntKind.wrap_i64]; omega
  have HP := Lib.hid hP
  have HF := Lib.hid hF
  have HG := Lib.hid hG
  have HS := Lib.hid hS
  have HN := Lib.hid hN
  have HQ := Lib.hid hQ
  have HTT := Lib.hid hT
  have HW0 : Hid (Below w.heap.size w ((w.alloc (.cells #[.slice A1 n1 c1, .slice A2 n2 c2] 24)).alloc (.cells #[.int .i64 a, .int .i64 b, .bool h] 26))) := ((Below.refl _ _).alloc (Nat.le_refl _) _).alloc (by simp) _
  have HT0 := Lib.hid ((FtAt.at_ w w.heap.size (.slice A1 n1 c1) (.slice A2 n2 c2) 24 rfl rfl rfl).keep ((Below.refl _ _).alloc (Nat.le_refl _) (.cells #[.int .i64 a, .int .i64 b, .bool h] 26)))
  have HL0 := Lib.hid (LvAt.at_ (w.alloc (.cells #[.slice A1 n1 c1, .slice A2 n2 c2] 24)) (w.heap.size + 1) a b h 26 (by simp))
  clear hP hF hG hS hN hQ hT hsm hl
  go_enter Try.func4, Try.ntmps4
  go_wp2_with fail
  refine (awake_any _).mono ?_
  rintro e w1 ⟨rfl, hb⟩
  have HW := Lib.hid (HW0.out.trans (hb.mono HW0.out.size))
  have HT0 := Lib.hid (HT0.out.keep hb)
  have HL0 := Lib.hid (HL0.out.keep hb)
  clear hb
  obtain ⟨qHT0_0, _, _, qHT0_1, qHT0_2⟩ := HT0.out
  obtain ⟨qHL0_0, qHL0_1, qHL0_2, qHL0_3⟩ := HL0.out
  go_wp2_with fail
  refine (HSm.out _).mono ?_
  rintro e wN1 ⟨rfl, hb⟩
  clear qHT0_1 qHT0_2 qHL0_1 qHL0_2 qHL0_3
  have hbb := hb
  have HW := Lib.hid (HW.out.trans (hbb.mono HW.out.size))
  have HT0 := Lib.hid (HT0.out.keep hbb)
  have HL0 := Lib.hid (HL0.out.keep hbb)
  clear hb hbb
  obtain ⟨qHT0_0, _, _, qHT0_1, qHT0_2⟩ := HT0.out
  obtain ⟨qHL0_0, qHL0_1, qHL0_2, qHL0_3⟩ := HL0.out
  go_wp2_with fail
  refine (HP.out _ HW.out).mono ?_
  rintro e wN2 ⟨g1, f1, d1, rfl, hs, hd1, hd2, hb⟩
  clear qHT0_1 qHT0_2 qHL0_1 qHL0_2 qHL0_3
  have hbb := hb
  have HW := Lib.hid (HW.out.trans (hbb.mono HW.out.size))
  have HT0 := Lib.hid (HT0.out.keep hbb)
  have HL0 := Lib.hid (HL0.out.keep hbb)
  have HK := Lib.hid hs
  have hsl1 := cut_run g1 f1 M d1 hd1
  clear hs
  clear hb hbb
  obtain ⟨qHT0_0, _, _, qHT0_1, qHT0_2⟩ := HT0.out
  obtain ⟨qHL0_0, qHL0_1, qHL0_2, qHL0_3⟩ := HL0.out
  go_wp2_with fail
  refine (HF.out _ _ _ _ HW.out HK.out).mono ?_
  rintro e wN3 ⟨o1, o2, rfl, ho1, ho2, hb⟩
  clear qHT0_1 qHT0_2 qHL0_1 qHL0_2 qHL0_3
  have hbb := hb
  have HW := Lib.hid (HW.out.trans (hbb.mono HW.out.size))
  have HT0 := Lib.hid (HT0.out.keep hbb)
  have HL0 := Lib.hid (HL0.out.keep hbb)
  have HK := Lib.hid (HK.out.keep hbb)
  have HX := Lib.hid ho1.sl
  have HY := Lib.hid ho2.sl
  obtain ⟨P1, j1, rfl, _⟩ := ho1.sl
  obtain ⟨P2, j2, rfl, _⟩ := ho2.sl
  clear ho1 ho2
  clear hb hbb
  obtain ⟨qHT0_0, _, _, qHT0_1, qHT0_2⟩ := HT0.out
  obtain ⟨qHL0_0, qHL0_1, qHL0_2, qHL0_3⟩ := HL0.out
  have HT := Lib.hid ((Below.refl wN3.heap.size wN3).alloc (Nat.le_refl _) (.cells #[.slice P1 p.length j1, .slice P2 r.length j2] 24))
  go_wp2_with fail
  refine (HG.out _ _ _ _ (HW.out.trans (HT.out.mono HW.out.size)) (HK.out.keep HT.out)).mono ?_
  rintro e wN4 ⟨o3, o4, rfl, ho3, ho4, hb⟩
  clear qHT0_1 qHT0_2 qHL0_1 qHL0_2 qHL0_3
  have hbb := HT.out.trans (hb.mono HT.out.size)
  have HT1 := Lib.hid ((FtAt.at_ wN3 wN3.heap.size (.slice P1 p.length j1) (.slice P2 r.length j2) 24 rfl rfl rfl).keep hb)
  have HW := Lib.hid (HW.out.trans (hbb.mono HW.out.size))
  have HT0 := Lib.hid (HT0.out.keep hbb)
  have HL0 := Lib.hid (HL0.out.keep hbb)
  have HK := Lib.hid (HK.out.keep hbb)
  have HX := Lib.hid (HX.out.keep hbb)
  have HY := Lib.hid (HY.out.keep hbb)
  obtain ⟨P3, j3, rfl, _⟩ := ho3.sl
  obtain ⟨P4, j4, rfl, _⟩ := ho4.sl
  clear ho3 ho4 hsl1
  clear hb hbb
  obtain ⟨qHT0_0, _, _, qHT0_1, qHT0_2⟩ := HT0.out
  obtain ⟨qHL0_0, qHL0_1, qHL0_2, qHL0_3⟩ := HL0.out
  obtain ⟨qHT1_0, _, _, qHT1_1, qHT1_2⟩ := HT1.out
  have HT := Lib.hid ((Below.refl wN4.heap.size wN4).alloc (Nat.le_refl _) (.cells #[.slice P3 0 j3, .slice P4 0 j4] 24))
  go_wp2_with fail
  refine (HS.out _ _ _ (HW.out.trans (HT.out.mono HW.out.size)) (HX.out.keep HT.out) (HY.out.keep HT.out)).mono ?_
  rintro e wN5 ⟨rfl, hb⟩
  clear qHT0_1 qHT0_2 qHL0_1 qHL0_2 qHL0_3 qHT1_1 qHT1_2
  have hbb := HT.out.trans (hb.mono HT.out.size)
  have HW := Lib.hid (HW.out.trans (hbb.mono HW.out.size))
  have HT0 := Lib.hid (HT0.out.keep hbb)
  have HL0 := Lib.hid (HL0.out.keep hbb)
  have HK := Lib.hid (HK.out.keep hbb)
  have HX := Lib.hid (HX.out.keep hbb)
  have HY := Lib.hid (HY.out.keep hbb)
  have HT1 := Lib.hid (HT1.out.keep hbb)
  clear hb hbb
  obtain ⟨qHT0_0, _, _, qHT0_1, qHT0_2⟩ := HT0.out
  obtain ⟨qHL0_0, qHL0_1, qHL0_2, qHL0_3⟩ := HL0.out
  obtain ⟨qHT1_0, _, _, qHT1_1, qHT1_2⟩ := HT1.out
  go_wp2_with fail
  refine (HN.out _ _ _ HW.out HX.out HY.out).mono ?_
  rintro e wN6 ⟨rfl, hb⟩
  clear qHT0_1 qHT0_2 qHL0_1 qHL0_2 qHL0_3 qHT1_1 qHT1_2
  have hbb := hb
  have HW := Lib.hid (HW.out.trans (hbb.mono HW.out.size))
  have HT0 := Lib.hid (HT0.out.keep hbb)
  have HL0 := Lib.hid (HL0.out.keep hbb)
  have HK := Lib.hid (HK.out.keep hbb)
  have HX := Lib.hid (HX.out.keep hbb)
  have HY := Lib.hid (HY.out.keep hbb)
  have HT1 := Lib.hid (HT1.out.keep hbb)
  clear hb hbb
  obtain ⟨qHT0_0, _, _, qHT0_1, qHT0_2⟩ := HT0.out
  obtain ⟨qHL0_0, qHL0_1, qHL0_2, qHL0_3⟩ := HL0.out
  obtain ⟨qHT1_0, _, _, qHT1_1, qHT1_2⟩ := HT1.out
  clear qHT1_1 qHT1_2
  clear HT1
  clear HK
  clear HX
  clear HY
  go_wp2_with fail
  refine (HQ.out _ HW.out).mono ?_
  rintro e wN7 ⟨rfl, hb⟩
  clear qHT0_1 qHT0_2 qHL0_1 qHL0_2 qHL0_3
  have hbb := hb
  have HW := Lib.hid (HW.out.trans (hbb.mono HW.out.size))
  have HT0 := Lib.hid (HT0.out.keep hbb)
  have HL0 := Lib.hid (HL0.out.keep hbb)
  clear hb hbb
  obtain ⟨qHT0_0, _, _, qHT0_1, qHT0_2⟩ := HT0.out
  obtain ⟨qHL0_0, qHL0_1, qHL0_2, qHL0_3⟩ := HL0.out
  go_wp2_with fail
  refine (HTT.out _ HW.out).mono ?_
  rintro e wN8 ⟨rfl, hb⟩
  clear qHT0_1 qHT0_2 qHL0_1 qHL0_2 qHL0_3
  have hbb := hb
  have HW := Lib.hid (HW.out.trans (hbb.mono HW.out.size))
  have HT0 := Lib.hid (HT0.out.keep hbb)
  have HL0 := Lib.hid (HL0.out.keep hbb)
  clear hb hbb
  obtain ⟨qHT0_0, _, _, qHT0_1, qHT0_2⟩ := HT0.out
  obtain ⟨qHL0_0, qHL0_1, qHL0_2, qHL0_3⟩ := HL0.out
  go_wp2_with fail
  go_ret
  exact ⟨rfl, HW.out⟩
theorem back_ny (A A1 A2 : Option Addr) (n c n1 n2 c1 c2 : Nat) (_p _r K2 : List Int) (M2 _z : Nat) (a b : Int) (h : Bool) (w : World) (hl : n ≤ 100) (hsm : smB n1 n2 = true) (hM20 : 0 < M2) (hM2 : M2 ≤ 100000)
    (hP : ∀ W, Below w.heap.size w W → Calls Try.prog 18 #[.slice A n c, .agg #[.slice A1 n1 c1, .slice A2 n2 c2]] W fun e w' => e = .returned (.tuple #[.slice none 0 0, .int .i64 1]) ∧ Below W.heap.size W w')
    (hQ : ∀ W, Below w.heap.size w W → Calls Try.prog 20 #[.slice A n c, .agg #[.int .i64 a, .int .i64 b, .bool h]] W (LaidM K2 M2 W))
    (hL : ∀ W g off d, Below w.heap.size w W → Sl W (.slice (some ⟨g, off, none⟩) (M2 + 1) d) K2 → Calls Try.prog 15 #[.slice (some ⟨g, off, none⟩) (M2 + 1) d, .int .i64 (n : Int)] W (LmTold a b h ((M2 : Int) + 1) 0 W))
    (hI : ∀ W g off d, Below w.heap.size w W → Sl W (.slice (some ⟨g, off, none⟩) (M2 + 1) d) K2 → Calls Try.prog 15 #[.slice (some ⟨g, off, none⟩) M2 d, .int .i64 (n : Int)] W (LmTold 0 0 false 0 2 W))
    (hT : ∀ W, Below w.heap.size w W → Calls Try.prog 22 #[.agg #[.slice A1 n1 c1, .slice A2 n2 c2]] W fun e w' => e = .returned (.bool false) ∧ Below W.heap.size W w')
    : Calls Try.prog 4 #[.slice A n c, .agg #[.slice A1 n1 c1, .slice A2 n2 c2], .agg #[.int .i64 a, .int .i64 b, .bool h]] w fun e w' => e = .returned (.bool true) ∧ Below w.heap.size w w' := by
  have t1 : decide ((100 : Int) < (n : Int)) = false := by simp; omega
  have HSm := Lib.hid (fun W => small_any A1 A2 n1 n2 c1 c2 W)
  rw [hsm] at HSm
  have k0 : (0 : Int) < (M2 : Int) := by omega
  have k1 : IntKind.i64.wrap ((M2 : Int) + 1 - 1) = (M2 : Int) := by rw [IntKind.wrap_i64]; omega
  have HP := Lib.hid hP
  have HQ := Lib.hid hQ
  have HL := Lib.hid hL
  have HI := Lib.hid hI
  have HTT := Lib.hid hT
  have HW0 : Hid (Below w.heap.size w ((w.alloc (.cells #[.slice A1 n1 c1, .slice A2 n2 c2] 24)).alloc (.cells #[.int .i64 a, .int .i64 b, .bool h] 26))) := ((Below.refl _ _).alloc (Nat.le_refl _) _).alloc (by simp) _
  have HT0 := Lib.hid ((FtAt.at_ w w.heap.size (.slice A1 n1 c1) (.slice A2 n2 c2) 24 rfl rfl rfl).keep ((Below.refl _ _).alloc (Nat.le_refl _) (.cells #[.int .i64 a, .int .i64 b, .bool h] 26)))
  have HL0 := Lib.hid (LvAt.at_ (w.alloc (.cells #[.slice A1 n1 c1, .slice A2 n2 c2] 24)) (w.heap.size + 1) a b h 26 (by simp))
  clear hP hQ hL hI hT hsm hl
  go_enter Try.func4, Try.ntmps4
  go_wp2_with fail
  refine (awake_any _).mono ?_
  rintro e w1 ⟨rfl, hb⟩
  have HW := Lib.hid (HW0.out.trans (hb.mono HW0.out.size))
  have HT0 := Lib.hid (HT0.out.keep hb)
  have HL0 := Lib.hid (HL0.out.keep hb)
  clear hb
  obtain ⟨qHT0_0, _, _, qHT0_1, qHT0_2⟩ := HT0.out
  obtain ⟨qHL0_0, qHL0_1, qHL0_2, qHL0_3⟩ := HL0.out
  go_wp2_with fail
  refine (HSm.out _).mono ?_
  rintro e wN1 ⟨rfl, hb⟩
  clear qHT0_1 qHT0_2 qHL0_1 qHL0_2 qHL0_3
  have hbb := hb
  have HW := Lib.hid (HW.out.trans (hbb.mono HW.out.size))
  have HT0 := Lib.hid (HT0.out.keep hbb)
  have HL0 := Lib.hid (HL0.out.keep hbb)
  clear hb hbb
  obtain ⟨qHT0_0, _, _, qHT0_1, qHT0_2⟩ := HT0.out
  obtain ⟨qHL0_0, qHL0_1, qHL0_2, qHL0_3⟩ := HL0.out
  go_wp2_with fail
  refine (HP.out _ HW.out).mono ?_
  rintro e wN2 ⟨rfl, hb⟩
  clear qHT0_1 qHT0_2 qHL0_1 qHL0_2 qHL0_3
  have hbb := hb
  have HW := Lib.hid (HW.out.trans (hbb.mono HW.out.size))
  have HT0 := Lib.hid (HT0.out.keep hbb)
  have HL0 := Lib.hid (HL0.out.keep hbb)
  clear hb hbb
  obtain ⟨qHT0_0, _, _, qHT0_1, qHT0_2⟩ := HT0.out
  obtain ⟨qHL0_0, qHL0_1, qHL0_2, qHL0_3⟩ := HL0.out
  go_wp2_with fail
  refine (HQ.out _ HW.out).mono ?_
  rintro e wN3 ⟨g2, f2, e2, rfl, hs, hd3, hd4, hb⟩
  clear qHT0_1 qHT0_2 qHL0_1 qHL0_2 qHL0_3
  have hbb := hb
  have HW := Lib.hid (HW.out.trans (hbb.mono HW.out.size))
  have HT0 := Lib.hid (HT0.out.keep hbb)
  have HL0 := Lib.hid (HL0.out.keep hbb)
  have HK2 := Lib.hid hs
  have hsl2 := cut_run g2 f2 M2 e2 hd3
  clear hs
  clear hb hbb
  obtain ⟨qHT0_0, _, _, qHT0_1, qHT0_2⟩ := HT0.out
  obtain ⟨qHL0_0, qHL0_1, qHL0_2, qHL0_3⟩ := HL0.out
  go_wp2_with fail
  refine (HL.out _ _ _ _ HW.out HK2.out).mono ?_
  rintro e wN4 ⟨rfl, hb⟩
  clear qHT0_1 qHT0_2 qHL0_1 qHL0_2 qHL0_3
  have hbb := hb
  have HW := Lib.hid (HW.out.trans (hbb.mono HW.out.size))
  have HT0 := Lib.hid (HT0.out.keep hbb)
  have HL0 := Lib.hid (HL0.out.keep hbb)
  have HK2 := Lib.hid (HK2.out.keep hbb)
  clear hb hbb
  obtain ⟨qHT0_0, _, _, qHT0_1, qHT0_2⟩ := HT0.out
  obtain ⟨qHL0_0, qHL0_1, qHL0_2, qHL0_3⟩ := HL0.out
  have HT := Lib.hid ((Below.refl wN4.heap.size wN4).alloc (Nat.le_refl _) (.cells #[.int .i64 a, .int .i64 b, .bool h] 26))
  go_wp2_with fail
  refine (HI.out _ _ _ _ (HW.out.trans (HT.out.mono HW.out.size)) (HK2.out.keep HT.out)).mono ?_
  rintro e wN5 ⟨rfl, hb⟩
  clear qHT0_1 qHT0_2 qHL0_1 qHL0_2 qHL0_3
  have hbb := HT.out.trans (hb.mono HT.out.size)
  have HL1 := Lib.hid ((LvAt.at_ wN4 wN4.heap.size a b h 26 rfl).keep hb)
  have HW := Lib.hid (HW.out.trans (hbb.mono HW.out.size))
  have HT0 := Lib.hid (HT0.out.keep hbb)
  have HL0 := Lib.hid (HL0.out.keep hbb)
  have HK2 := Lib.hid (HK2.out.keep hbb)
  clear hsl2
  clear hb hbb
  obtain ⟨qHT0_0, _, _, qHT0_1, qHT0_2⟩ := HT0.out
  obtain ⟨qHL0_0, qHL0_1, qHL0_2, qHL0_3⟩ := HL0.out
  obtain ⟨qHL1_0, qHL1_1, qHL1_2, qHL1_3⟩ := HL1.out
  have HT := Lib.hid ((Below.refl wN5.heap.size wN5).alloc (Nat.le_refl _) (.cells #[.int .i64 0, .int .i64 0, .bool false] 26))
  go_wp2_with fail
  refine (HTT.out _ (HW.out.trans (HT.out.mono HW.out.size))).mono ?_
  rintro e wN6 ⟨rfl, hb⟩
  clear qHT0_1 qHT0_2 qHL0_1 qHL0_2 qHL0_3 qHL1_1 qHL1_2 qHL1_3
  have hbb := HT.out.trans (hb.mono HT.out.size)
  have HW := Lib.hid (HW.out.trans (hbb.mono HW.out.size))
  have HT0 := Lib.hid (HT0.out.keep hbb)
  have HL0 := Lib.hid (HL0.out.keep hbb)
  have HK2 := Lib.hid (HK2.out.keep hbb)
  have HL1 := Lib.hid (HL1.out.keep hbb)
  clear hb hbb
  obtain ⟨qHT0_0, _, _, qHT0_1, qHT0_2⟩ := HT0.out
  obtain ⟨qHL0_0, qHL0_1, qHL0_2, qHL0_3⟩ := HL0.out
  obtain ⟨qHL1_0, qHL1_1, qHL1_2, qHL1_3⟩ := HL1.out
  go_wp2_with fail
  go_ret
  exact ⟨rfl, HW.out⟩
theorem back_nn (A A1 A2 : Option Addr) (n c n1 n2 c1 c2 : Nat) (_p _r : List Int) (_z : Nat) (a b : Int) (h : Bool) (w : World) (hl : n ≤ 100) (hsm : smB n1 n2 = true)
    (hP : ∀ W, Below w.heap.size w W → Calls Try.prog 18 #[.slice A n c, .agg #[.slice A1 n1 c1, .slice A2 n2 c2]] W fun e w' => e = .returned (.tuple #[.slice none 0 0, .int .i64 1]) ∧ Below W.heap.size W w')
    (hQ : ∀ W, Below w.heap.size w W → Calls Try.prog 20 #[.slice A n c, .agg #[.int .i64 a, .int .i64 b, .bool h]] W fun e w' => e = .returned (.tuple #[.slice none 0 0, .int .i64 1]) ∧ Below W.heap.size W w')
    (hT : ∀ W, Below w.heap.size w W → Calls Try.prog 22 #[.agg #[.slice A1 n1 c1, .slice A2 n2 c2]] W fun e w' => e = .returned (.bool false) ∧ Below W.heap.size W w')
    : Calls Try.prog 4 #[.slice A n c, .agg #[.slice A1 n1 c1, .slice A2 n2 c2], .agg #[.int .i64 a, .int .i64 b, .bool h]] w fun e w' => e = .returned (.bool true) ∧ Below w.heap.size w w' := by
  have t1 : decide ((100 : Int) < (n : Int)) = false := by simp; omega
  have HSm := Lib.hid (fun W => small_any A1 A2 n1 n2 c1 c2 W)
  rw [hsm] at HSm
  have HP := Lib.hid hP
  have HQ := Lib.hid hQ
  have HTT := Lib.hid hT
  have HW0 : Hid (Below w.heap.size w ((w.alloc (.cells #[.slice A1 n1 c1, .slice A2 n2 c2] 24)).alloc (.cells #[.int .i64 a, .int .i64 b, .bool h] 26))) := ((Below.refl _ _).alloc (Nat.le_refl _) _).alloc (by simp) _
  have HT0 := Lib.hid ((FtAt.at_ w w.heap.size (.slice A1 n1 c1) (.slice A2 n2 c2) 24 rfl rfl rfl).keep ((Below.refl _ _).alloc (Nat.le_refl _) (.cells #[.int .i64 a, .int .i64 b, .bool h] 26)))
  have HL0 := Lib.hid (LvAt.at_ (w.alloc (.cells #[.slice A1 n1 c1, .slice A2 n2 c2] 24)) (w.heap.size + 1) a b h 26 (by simp))
  clear hP hQ hT hsm hl
  go_enter Try.func4, Try.ntmps4
  go_wp2_with fail
  refine (awake_any _).mono ?_
  rintro e w1 ⟨rfl, hb⟩
  have HW := Lib.hid (HW0.out.trans (hb.mono HW0.out.size))
  have HT0 := Lib.hid (HT0.out.keep hb)
  have HL0 := Lib.hid (HL0.out.keep hb)
  clear hb
  obtain ⟨qHT0_0, _, _, qHT0_1, qHT0_2⟩ := HT0.out
  obtain ⟨qHL0_0, qHL0_1, qHL0_2, qHL0_3⟩ := HL0.out
  go_wp2_with fail
  refine (HSm.out _).mono ?_
  rintro e wN1 ⟨rfl, hb⟩
  clear qHT0_1 qHT0_2 qHL0_1 qHL0_2 qHL0_3
  have hbb := hb
  have HW := Lib.hid (HW.out.trans (hbb.mono HW.out.size))
  have HT0 := Lib.hid (HT0.out.keep hbb)
  have HL0 := Lib.hid (HL0.out.keep hbb)
  clear hb hbb
  obtain ⟨qHT0_0, _, _, qHT0_1, qHT0_2⟩ := HT0.out
  obtain ⟨qHL0_0, qHL0_1, qHL0_2, qHL0_3⟩ := HL0.out
  go_wp2_with fail
  refine (HP.out _ HW.out).mono ?_
  rintro e wN2 ⟨rfl, hb⟩
  clear qHT0_1 qHT0_2 qHL0_1 qHL0_2 qHL0_3
  have hbb := hb
  have HW := Lib.hid (HW.out.trans (hbb.mono HW.out.size))
  have HT0 := Lib.hid (HT0.out.keep hbb)
  have HL0 := Lib.hid (HL0.out.keep hbb)
  clear hb hbb
  obtain ⟨qHT0_0, _, _, qHT0_1, qHT0_2⟩ := HT0.out
  obtain ⟨qHL0_0, qHL0_1, qHL0_2, qHL0_3⟩ := HL0.out
  go_wp2_with fail
  refine (HQ.out _ HW.out).mono ?_
  rintro e wN3 ⟨rfl, hb⟩
  clear qHT0_1 qHT0_2 qHL0_1 qHL0_2 qHL0_3
  have hbb := hb
  have HW := Lib.hid (HW.out.trans (hbb.mono HW.out.size))
  have HT0 := Lib.hid (HT0.out.keep hbb)
  have HL0 := Lib.hid (HL0.out.keep hbb)
  clear hb hbb
  obtain ⟨qHT0_0, _, _, qHT0_1, qHT0_2⟩ := HT0.out
  obtain ⟨qHL0_0, qHL0_1, qHL0_2, qHL0_3⟩ := HL0.out
  go_wp2_with fail
  refine (HTT.out _ HW.out).mono ?_
  rintro e wN4 ⟨rfl, hb⟩
  clear qHT0_1 qHT0_2 qHL0_1 qHL0_2 qHL0_3
  have hbb := hb
  have HW := Lib.hid (HW.out.trans (hbb.mono HW.out.size))
  have HT0 := Lib.hid (HT0.out.keep hbb)
  have HL0 := Lib.hid (HL0.out.keep hbb)
  clear hb hbb
  obtain ⟨qHT0_0, _, _, qHT0_1, qHT0_2⟩ := HT0.out
  obtain ⟨qHL0_0, qHL0_1, qHL0_2, qHL0_3⟩ := HL0.out
  go_wp2_with fail
  go_ret
  exact ⟨rfl, HW.out⟩
theorem limB_len (x y : Int) (h : Bool) (hx : x.toNat < 4294967296) (hy : y.toNat < 4294967296) : 2 ≤ (limB x y h).length ∧ (limB x y h).length ≤ 30 := by
  have := Leb.lenU_pos x.toNat
  have := Leb.uB_len x.toNat
  have := uLen x.toNat (by omega)
  have := uLen y.toNat (by omega)
  unfold limB
  cases h <;> simp <;> omega
theorem limB_byte (x y : Int) (h : Bool) : ∀ z ∈ limB x y h, 0 ≤ z ∧ z < 256 := by
  have hu : ∀ (v : Nat) (z : Int), z ∈ Leb.uB v → 0 ≤ z ∧ z < 256 := fun v z hz => by have := Leb.uB_byte v z hz; omega
  unfold limB
  intro z hz
  cases h with
  | false =>
    rcases List.mem_append.1 hz with hz | hz
    · obtain rfl : z = 0 := by simpa using hz
      omega
    · exact hu _ _ hz
  | true =>
    rcases List.mem_append.1 hz with hz | hz
    · rcases List.mem_append.1 hz with hz | hz
      · obtain rfl : z = 1 := by simpa using hz
        omega
      · exact hu _ _ hz
    · exact hu _ _ hz
theorem back_law (a a1 a2 : Option Addr) (len cap l1 l2 k1 k2 : Nat) (zs z1 z2 : List Int) (x y : Int) (h : Bool) (w : World) (hr : Leb.Came .u8 w a len cap zs) (hr1 : Leb.Came .u8 w a1 l1 k1 z1) (hr2 : Leb.Came .u8 w a2 l2 k2 z2) :
    Calls Try.prog 4 #[.slice a len cap, .agg #[.slice a1 l1 k1, .slice a2 l2 k2], lv x y h] w fun e w' => e = .returned (.bool true) ∧ Below w.heap.size w w' := by
  obtain ⟨p1, _⟩ := came_parts hr
  obtain ⟨s1, b1⟩ := came_sl hr
  obtain ⟨p2, _⟩ := came_parts hr1
  obtain ⟨s2, b2⟩ := came_sl hr1
  obtain ⟨p3, _⟩ := came_parts hr2
  obtain ⟨s3, b3⟩ := came_sl hr2
  revert s1 b1 p1 s2 b2 p2 s3 b3 p3
  generalize zs.take len = l
  generalize z1.take l1 = p
  generalize z2.take l2 = r
  intro p1 s1 b1 p2 s2 b2 p3 s3 b3
  unfold lv
  by_cases hl : len ≤ 100
  · cases hs : smB l1 l2 with
    | false => exact back_large a a1 a2 len cap l1 l2 k1 k2 x y h w hl hs
    | true =>
      have hsz : l1 ≤ 100 ∧ l2 ≤ 100 := by
        unfold smB at hs
        by_cases g1 : l1 ≤ 100
        · rw [decide_eq_true g1] at hs
          exact ⟨g1, by simpa using hs⟩
        · rw [decide_eq_false g1] at hs; cases hs
      have hPut : ∀ W, Below w.heap.size w W → Calls Try.prog 18 #[.slice a len cap, .agg #[.slice a1 l1 k1, .slice a2 l2 k2]] W (PfIs l p r W) := fun W hW => putFunc_any _ _ _ l p r W (s1.keep hW) (s2.keep hW) (s3.keep hW) (by omega) (by omega) (by omega)
      have hPutL : ∀ W, Below w.heap.size w W → Calls Try.prog 20 #[.slice a len cap, .agg #[.int .i64 x, .int .i64 y, .bool h]] W (PlIs l x y h W) := fun W hW => putLim_any _ l x y h W (s1.keep hW) (by omega)
      have hSane : ∀ W, Below w.heap.size w W → Calls Try.prog 22 #[.agg #[.slice a1 l1 k1, .slice a2 l2 k2]] W fun e w' => e = .returned (.bool (sane p r)) ∧ Below W.heap.size W w' := fun W hW => sane_any _ _ p r W (s2.keep hW) (s3.keep hW) (by omega) (by omega)
      unfold PfIs at hPut
      unfold PlIs at hPutL
      cases hsn : sane p r with
      | false =>
        rw [hsn] at hPut hSane
        cases hok : okL x y h with
        | false =>
          rw [hok] at hPutL
          exact back_nn a a1 a2 len cap l1 l2 k1 k2 p r 0 x y h w hl hs hPut hPutL hSane
        | true =>
          rw [hok] at hPutL
          obtain ⟨e1, e2, g1, g2, _⟩ := okL_nat hok
          obtain ⟨K2, hK2⟩ : ∃ K2, K2 = l ++ limB x y h := ⟨_, rfl⟩
          have hlb := limB_len x y h g1 g2
          obtain ⟨M2, hM2⟩ : ∃ M2, K2.length = M2 + 1 := ⟨K2.length - 1, by rw [hK2, List.length_append]; omega⟩
          have hm20 : 0 < M2 := by rw [hK2, List.length_append] at hM2; omega
          have hm2 : M2 ≤ 100000 := by rw [hK2, List.length_append] at hM2; omega
          have hKb2 : ∀ x ∈ K2, 0 ≤ x ∧ x < 256 := by
            rw [hK2]; intro z hz
            rcases List.mem_append.1 hz with hz | hz
            · exact b1 z hz
            · exact limB_byte x y h z hz
          have hQ : ∀ W, Below w.heap.size w W → Calls Try.prog 20 #[.slice a len cap, .agg #[.int .i64 x, .int .i64 y, .bool h]] W (LaidM K2 M2 W) := fun W hW => (hPutL W hW).mono fun e w' h => LaidE.m hM2 (by rw [hK2]; exact h)
          have hL : ∀ W g off d, Below w.heap.size w W → Sl W (.slice (some ⟨g, off, none⟩) (M2 + 1) d) K2 → Calls Try.prog 15 #[.slice (some ⟨g, off, none⟩) (M2 + 1) d, .int .i64 (len : Int)] W (LmTold x y h ((M2 : Int) + 1) 0 W) := fun W g off d _ hv => by
            have := lim_any _ K2 (len : Int) W hKb2 hv (by omega)
            unfold LmIs at this
            have e := lm_back (b := l) hok
            rw [← hK2, p1, hM2] at e
            rw [e] at this
            exact this
          have hI : ∀ W g off d, Below w.heap.size w W → Sl W (.slice (some ⟨g, off, none⟩) (M2 + 1) d) K2 → Calls Try.prog 15 #[.slice (some ⟨g, off, none⟩) M2 d, .int .i64 (len : Int)] W (LmTold 0 0 false 0 2 W) := fun W g off d _ hv => by
            have := lim_any _ (K2.take M2) (len : Int) W (fun x hx => hKb2 x (List.mem_of_mem_take hx)) (cut_sl hv hM2) (by rw [List.length_take]; omega)
            unfold LmIs at this
            have e := lm_cut (b := l) hok
            rw [← hK2, p1, hM2, Nat.add_sub_cancel] at e
            rw [e] at this
            exact this
          exact back_ny a a1 a2 len cap l1 l2 k1 k2 p r K2 M2 0 x y h w hl hs hm20 hm2 hPut hQ hL hI hSane
      | true =>
        rw [hsn] at hPut hSane
        obtain ⟨q1, q2, q3, q4⟩ := sane_parts hsn
        have hfl := fnB_len q1 q2
        obtain ⟨K, hK⟩ : ∃ K, K = l ++ fnB p r := ⟨_, rfl⟩
        obtain ⟨M, hM⟩ : ∃ M, K.length = M + 1 := ⟨K.length - 1, by rw [hK, List.length_append]; omega⟩
        have hm0 : 0 < M := by rw [hK, List.length_append] at hM; omega
        have hm : M ≤ 100000 := by rw [hK, List.length_append] at hM; omega
        have hKb : ∀ x ∈ K, 0 ≤ x ∧ x < 256 := by
          rw [hK]; intro x hx
          rcases List.mem_append.1 hx with hx | hx
          · exact b1 x hx
          · exact fnB_byte q1 q2 b2 b3 x hx
        have hP : ∀ W, Below w.heap.size w W → Calls Try.prog 18 #[.slice a len cap, .agg #[.slice a1 l1 k1, .slice a2 l2 k2]] W (LaidM K M W) := fun W hW => (hPut W hW).mono fun e w' h => LaidE.m hM (by rw [hK]; exact h)
        have hF : ∀ W g off d, Below w.heap.size w W → Sl W (.slice (some ⟨g, off, none⟩) (M + 1) d) K → Calls Try.prog 13 #[.slice (some ⟨g, off, none⟩) (M + 1) d, .int .i64 (len : Int)] W (FnTold p r ((M : Int) + 1) 0 W) := fun W g off d _ hv => by
          have := func_any _ K (len : Int) W hKb hv (by omega)
          unfold FnIs at this
          have e := fn_back (b := l) hsn
          rw [← hK, p1, hM] at e
          rw [e] at this
          exact this
        have hG : ∀ W g off d, Below w.heap.size w W → Sl W (.slice (some ⟨g, off, none⟩) (M + 1) d) K → Calls Try.prog 13 #[.slice (some ⟨g, off, none⟩) M d, .int .i64 (len : Int)] W (FnTold [] [] 0 2 W) := fun W g off d _ hv => by
          have := func_any _ (K.take M) (len : Int) W (fun x hx => hKb x (List.mem_of_mem_take hx)) (cut_sl hv hM) (by rw [List.length_take]; omega)
          unfold FnIs at this
          have e := fn_cut (b := l) hsn
          rw [← hK, p1, hM, Nat.add_sub_cancel] at e
          rw [e] at this
          exact this
        have hS : ∀ W u v, Below w.heap.size w W → Sl W u p → Sl W v r → Calls Try.prog 24 #[.agg #[u, v], .agg #[.slice a1 l1 k1, .slice a2 l2 k2]] W fun e w' => e = .returned (.bool true) ∧ Below W.heap.size W w' := fun W u v hW hu hv => by
          have := same_any u v _ _ p r p r W hu hv (s2.keep hW) (s3.keep hW) b2 b3 b2 b3
          rwa [show smL p r p r = true from by unfold smL; simp] at this
        have hN : ∀ W u v, Below w.heap.size w W → Sl W u p → Sl W v r → Calls Try.prog 22 #[.agg #[u, v]] W fun e w' => e = .returned (.bool true) ∧ Below W.heap.size W w' := fun W u v _ hu hv => by
          have := sane_any u v p r W hu hv (by omega) (by omega)
          rwa [hsn] at this
        cases hok : okL x y h with
        | false =>
          rw [hok] at hPutL
          exact back_yn a a1 a2 len cap l1 l2 k1 k2 p r K M 0 x y h w hl hs hm0 hm hP hF hG hS hN hPutL hSane
        | true =>
          rw [hok] at hPutL
          obtain ⟨e1, e2, g1, g2, _⟩ := okL_nat hok
          obtain ⟨K2, hK2⟩ : ∃ K2, K2 = l ++ limB x y h := ⟨_, rfl⟩
          have hlb := limB_len x y h g1 g2
          obtain ⟨M2, hM2⟩ : ∃ M2, K2.length = M2 + 1 := ⟨K2.length - 1, by rw [hK2, List.length_append]; omega⟩
          have hm20 : 0 < M2 := by rw [hK2, List.length_append] at hM2; omega
          have hm2 : M2 ≤ 100000 := by rw [hK2, List.length_append] at hM2; omega
          have hKb2 : ∀ x ∈ K2, 0 ≤ x ∧ x < 256 := by
            rw [hK2]; intro z hz
            rcases List.mem_append.1 hz with hz | hz
            · exact b1 z hz
            · exact limB_byte x y h z hz
          have hQ : ∀ W, Below w.heap.size w W → Calls Try.prog 20 #[.slice a len cap, .agg #[.int .i64 x, .int .i64 y, .bool h]] W (LaidM K2 M2 W) := fun W hW => (hPutL W hW).mono fun e w' h => LaidE.m hM2 (by rw [hK2]; exact h)
          have hL : ∀ W g off d, Below w.heap.size w W → Sl W (.slice (some ⟨g, off, none⟩) (M2 + 1) d) K2 → Calls Try.prog 15 #[.slice (some ⟨g, off, none⟩) (M2 + 1) d, .int .i64 (len : Int)] W (LmTold x y h ((M2 : Int) + 1) 0 W) := fun W g off d _ hv => by
            have := lim_any _ K2 (len : Int) W hKb2 hv (by omega)
            unfold LmIs at this
            have e := lm_back (b := l) hok
            rw [← hK2, p1, hM2] at e
            rw [e] at this
            exact this
          have hI : ∀ W g off d, Below w.heap.size w W → Sl W (.slice (some ⟨g, off, none⟩) (M2 + 1) d) K2 → Calls Try.prog 15 #[.slice (some ⟨g, off, none⟩) M2 d, .int .i64 (len : Int)] W (LmTold 0 0 false 0 2 W) := fun W g off d _ hv => by
            have := lim_any _ (K2.take M2) (len : Int) W (fun x hx => hKb2 x (List.mem_of_mem_take hx)) (cut_sl hv hM2) (by rw [List.length_take]; omega)
            unfold LmIs at this
            have e := lm_cut (b := l) hok
            rw [← hK2, p1, hM2, Nat.add_sub_cancel] at e
            rw [e] at this
            exact this
          exact back_yy a a1 a2 len cap l1 l2 k1 k2 p r K K2 M M2 0 x y h w hl hs hm0 hm hm20 hm2 hP hF hG hS hN hQ hL hI hSane
  · exact back_big a a1 a2 len cap l1 l2 k1 k2 x y h w (by omega)
end Go.Proofs.Ytnminpbnlcgblaa.Typ
