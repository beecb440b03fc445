/- InstrBack walked: an instruction that is laid behind others is read there as it was; a byte less is too short. -/
import Derived.Test.YtmjimijolfjhmaaDoorInsPAwake
import Derived.Test.YtmjimijolfjhmaaDoorInsTold
import Derived.Test.YtmjimijolfjhmaaDoorInsStab
namespace Go.Proofs.YtmjimijolfjhmaaDoor.Ins
open Go.RowKit Ints Typ
set_option maxRecDepth 100000
set_option maxHeartbeats 2000000
set_option linter.unusedVariables false

theorem icut_run (g off N M c : Nat) (hc : M ≤ c) (W : World) : (Instr.sliceAt 22 (.slice (some ⟨g, off, none⟩) N c) none (some (.int .i64 (M : Int))) none).run Tryd.prog W = .ok (.slice (some ⟨g, off, none⟩) M c) W := by
  have e0 : (0 : Int) ≤ (M : Int) := by omega
  have e2 : (M : Int) ≤ (c : Int) := by omega
  go_simp
theorem icut_sl {w : World} {g off c : Nat} {K : List Int} {M : Nat} (h : Sl w (.slice (some ⟨g, off, none⟩) K.length c) K) (hK : K.length = M + 1) : Sl w (.slice (some ⟨g, off, none⟩) M c) (K.take M) := by
  obtain ⟨A, c2, e, hc, hm, h4⟩ := h
  obtain ⟨g2, off2, rfl, hB⟩ := h4 (fun e => by rw [e] at hK; simp at hK)
  injection e with e1 e2 e3
  injection e1 with e1
  injection e1 with e4 e5
  subst e4 e5 e3
  have hl : (K.take M).length = M := by rw [List.length_take]; omega
  exact ⟨_, c, by rw [hl], by rw [hl]; omega, hm, fun _ => ⟨g, off, rfl, hB.take M⟩⟩
/-- New bytes, at least one, and an error. -/
def PutM (K : List Int) (w : World) (en : Ending) (w' : World) : Prop := ∃ g off c, en = .returned (.tuple #[.slice (some ⟨g, off, none⟩) K.length c, .int .i64 0]) ∧ Sl w' (.slice (some ⟨g, off, none⟩) K.length c) K ∧ K.length ≤ c ∧ c ≤ 9223372036854775807 ∧ Below w.heap.size w w'
theorem PutTold.m {K : List Int} {w w' : World} {e : Ending} (hK : 0 < K.length) (h : PutTold K 0 w e w') : PutM K w e w' := by
  obtain ⟨v, rfl, hs, hb⟩ := h
  have hs' := hs
  obtain ⟨A, c, rfl, hc, hm, h4⟩ := hs
  obtain ⟨g, off, rfl, _⟩ := h4 (fun e => by rw [e] at hK; simp at hK)
  exact ⟨g, off, c, rfl, hs', hc, hm, hb⟩
theorem iback_big1 (x : Ins) (P : Option Addr) (n c : Nat) (A T : Option Addr) (N cN S cS : Nat) (w : World) 
    (t1 : decide ((100 : Int) < (N : Int)) = true)
    (hA : ∀ W, Below w.heap.size w W → Calls Tryd.prog 9 #[] W fun e w' => e = .returned (.bool true) ∧ Below W.heap.size W w')
    : Calls Tryd.prog 4 #[.slice A N cN, .agg #[.int .i64 x.op, .int .i64 x.A, .int .i64 x.B, .int .u64 x.K, .slice P n c], .slice T S cS] w fun e w' => e = .returned (.bool true) ∧ Below w.heap.size w w' := by
  have HA := Lib.hid hA
  clear hA
  have HW := Lib.hid ((Below.refl w.heap.size w).alloc (Nat.le_refl _) (.cells #[.int .i64 x.op, .int .i64 x.A, .int .i64 x.B, .int .u64 x.K, .slice P n c] 26))
  have HX := Lib.hid (InAt.at_ w w.heap.size x.op x.A x.B x.K (.slice P n c) 26 rfl)
  obtain ⟨_, q1, q2, q3, q4, q5, _, _, _, _, _⟩ := HX.out
  go_enter Tryd.func4, Tryd.ntmps4
  go_wp2_with fail
  refine (HA.out _ HW.out).mono ?_
  rintro e w1 ⟨rfl, hb⟩
  have HX := Lib.hid (HX.out.keep hb)
  have HW := Lib.hid (HW.out.trans (hb.mono HW.out.size))
  clear hb
  clear q1 q2 q3 q4 q5
  obtain ⟨_, q1, q2, q3, q4, q5, _, _, _, _, _⟩ := HX.out
  go_wp2_with fail
  go_ret
  exact ⟨rfl, HW.out⟩
theorem iback_big2 (x : Ins) (P : Option Addr) (n c : Nat) (A T : Option Addr) (N cN S cS : Nat) (w : World) 
    (t1 : decide ((100 : Int) < (N : Int)) = false)
    (t2 : decide ((100 : Int) < (S : Int)) = true)
    (hA : ∀ W, Below w.heap.size w W → Calls Tryd.prog 9 #[] W fun e w' => e = .returned (.bool true) ∧ Below W.heap.size W w')
    : Calls Tryd.prog 4 #[.slice A N cN, .agg #[.int .i64 x.op, .int .i64 x.A, .int .i64 x.B, .int .u64 x.K, .slice P n c], .slice T S cS] w fun e w' => e = .returned (.bool true) ∧ Below w.heap.size w w' := by
  have HA := Lib.hid hA
  clear hA
  have HW := Lib.hid ((Below.refl w.heap.size w).alloc (Nat.le_refl _) (.cells #[.int .i64 x.op, .int .i64 x.A, .int .i64 x.B, .int .u64 x.K, .slice P n c] 26))
  have HX := Lib.hid (InAt.at_ w w.heap.size x.op x.A x.B x.K (.slice P n c) 26 rfl)
  obtain ⟨_, q1, q2, q3, q4, q5, _, _, _, _, _⟩ := HX.out
  go_enter Tryd.func4, Tryd.ntmps4
  go_wp2_with fail
  refine (HA.out _ HW.out).mono ?_
  rintro e w1 ⟨rfl, hb⟩
  have HX := Lib.hid (HX.out.keep hb)
  have HW := Lib.hid (HW.out.trans (hb.mono HW.out.size))
  clear hb
  clear q1 q2 q3 q4 q5
  obtain ⟨_, q1, q2, q3, q4, q5, _, _, _, _, _⟩ := HX.out
  go_wp2_with fail
  go_ret
  exact ⟨rfl, HW.out⟩
theorem iback_big3 (x : Ins) (P : Option Addr) (n c : Nat) (A T : Option Addr) (N cN S cS : Nat) (w : World) 
    (t1 : decide ((100 : Int) < (N : Int)) = false)
    (t2 : decide ((100 : Int) < (S : Int)) = false)
    (hA : ∀ W, Below w.heap.size w W → Calls Tryd.prog 9 #[] W fun e w' => e = .returned (.bool true) ∧ Below W.heap.size W w')
    (hSm : ∀ W, Below w.heap.size w W → Calls Tryd.prog 10 #[.agg #[.int .i64 x.op, .int .i64 x.A, .int .i64 x.B, .int .u64 x.K, .slice P n c]] W fun e w' => e = .returned (.bool false) ∧ Below W.heap.size W w')
    : Calls Tryd.prog 4 #[.slice A N cN, .agg #[.int .i64 x.op, .int .i64 x.A, .int .i64 x.B, .int .u64 x.K, .slice P n c], .slice T S cS] w fun e w' => e = .returned (.bool true) ∧ Below w.heap.size w w' := by
  have HA := Lib.hid hA
  have HSm := Lib.hid hSm
  clear hA hSm
  have HW := Lib.hid ((Below.refl w.heap.size w).alloc (Nat.le_refl _) (.cells #[.int .i64 x.op, .int .i64 x.A, .int .i64 x.B, .int .u64 x.K, .slice P n c] 26))
  have HX := Lib.hid (InAt.at_ w w.heap.size x.op x.A x.B x.K (.slice P n c) 26 rfl)
  obtain ⟨_, q1, q2, q3, q4, q5, _, _, _, _, _⟩ := HX.out
  go_enter Tryd.func4, Tryd.ntmps4
  go_wp2_with fail
  refine (HA.out _ HW.out).mono ?_
  rintro e w1 ⟨rfl, hb⟩
  have HX := Lib.hid (HX.out.keep hb)
  have HW := Lib.hid (HW.out.trans (hb.mono HW.out.size))
  clear hb
  clear q1 q2 q3 q4 q5
  obtain ⟨_, q1, q2, q3, q4, q5, _, _, _, _, _⟩ := HX.out
  go_wp2_with fail
  refine (HSm.out _ HW.out).mono ?_
  rintro e w2 ⟨rfl, hb⟩
  have HX := Lib.hid (HX.out.keep hb)
  have HW := Lib.hid (HW.out.trans (hb.mono HW.out.size))
  clear hb
  clear q1 q2 q3 q4 q5
  obtain ⟨_, q1, q2, q3, q4, q5, _, _, _, _, _⟩ := HX.out
  go_wp2_with fail
  go_ret
  exact ⟨rfl, HW.out⟩
theorem iback_no (x : Ins) (P : Option Addr) (n c : Nat) (A T : Option Addr) (N cN S cS : Nat) (w : World) 
    (t1 : decide ((100 : Int) < (N : Int)) = false)
    (t2 : decide ((100 : Int) < (S : Int)) = false)
    (hA : ∀ W, Below w.heap.size w W → Calls Tryd.prog 9 #[] W fun e w' => e = .returned (.bool true) ∧ Below W.heap.size W w')
    (hSm : ∀ W, Below w.heap.size w W → Calls Tryd.prog 10 #[.agg #[.int .i64 x.op, .int .i64 x.A, .int .i64 x.B, .int .u64 x.K, .slice P n c]] W fun e w' => e = .returned (.bool true) ∧ Below W.heap.size W w')
    (hP : ∀ W, Below w.heap.size w W → Calls Tryd.prog 13 #[.slice A N cN, .agg #[.int .i64 x.op, .int .i64 x.A, .int .i64 x.B, .int .u64 x.K, .slice P n c]] W (PutTold [] 1 W))
    (hSn : ∀ W, Below w.heap.size w W → Calls Tryd.prog 18 #[.agg #[.int .i64 x.op, .int .i64 x.A, .int .i64 x.B, .int .u64 x.K, .slice P n c]] W fun e w' => e = .returned (.bool false) ∧ Below W.heap.size W w')
    : Calls Tryd.prog 4 #[.slice A N cN, .agg #[.int .i64 x.op, .int .i64 x.A, .int .i64 x.B, .int .u64 x.K, .slice P n c], .slice T S cS] w fun e w' => e = .returned (.bool true) ∧ Below w.heap.size w w' := by
  have HA := Lib.hid hA
  have HSm := Lib.hid hSm
  have HP := Lib.hid hP
  have HSn := Lib.hid hSn
  clear hA hSm hP hSn
  have HW := Lib.hid ((Below.refl w.heap.size w).alloc (Nat.le_refl _) (.cells #[.int .i64 x.op, .int .i64 x.A, .int .i64 x.B, .int .u64 x.K, .slice P n c] 26))
  have HX := Lib.hid (InAt.at_ w w.heap.size x.op x.A x.B x.K (.slice P n c) 26 rfl)
  obtain ⟨_, q1, q2, q3, q4, q5, _, _, _, _, _⟩ := HX.out
  go_enter Tryd.func4, Tryd.ntmps4
  go_wp2_with fail
  refine (HA.out _ HW.out).mono ?_
  rintro e w1 ⟨rfl, hb⟩
  have HX := Lib.hid (HX.out.keep hb)
  have HW := Lib.hid (HW.out.trans (hb.mono HW.out.size))
  clear hb
  clear q1 q2 q3 q4 q5
  obtain ⟨_, q1, q2, q3, q4, q5, _, _, _, _, _⟩ := HX.out
  go_wp2_with fail
  refine (HSm.out _ HW.out).mono ?_
  rintro e w2 ⟨rfl, hb⟩
  have HX := Lib.hid (HX.out.keep hb)
  have HW := Lib.hid (HW.out.trans (hb.mono HW.out.size))
  clear hb
  clear q1 q2 q3 q4 q5
  obtain ⟨_, q1, q2, q3, q4, q5, _, _, _, _, _⟩ := HX.out
  go_wp2_with fail
  refine (HP.out _ HW.out).mono ?_
  rintro e w3 ⟨v, rfl, hs, hb⟩
  have HX := Lib.hid (HX.out.keep hb)
  have HW := Lib.hid (HW.out.trans (hb.mono HW.out.size))
  obtain ⟨AX, cX, rfl, _⟩ := id hs
  clear hs
  clear hb
  clear q1 q2 q3 q4 q5
  obtain ⟨_, q1, q2, q3, q4, q5, _, _, _, _, _⟩ := HX.out
  go_wp2_with fail
  refine (HSn.out _ HW.out).mono ?_
  rintro e w4 ⟨rfl, hb⟩
  have HX := Lib.hid (HX.out.keep hb)
  have HW := Lib.hid (HW.out.trans (hb.mono HW.out.size))
  clear hb
  clear q1 q2 q3 q4 q5
  obtain ⟨_, q1, q2, q3, q4, q5, _, _, _, _, _⟩ := HX.out
  go_wp2_with fail
  go_ret
  exact ⟨rfl, HW.out⟩
theorem iback_ok (x : Ins) (P : Option Addr) (n c : Nat) (A T : Option Addr) (N cN S cS : Nat) (w : World) (K t : List Int) (M : Nat)
    (t1 : decide ((100 : Int) < (N : Int)) = false)
    (t2 : decide ((100 : Int) < (t.length : Int)) = false)
    (hM : K.length = M + 1)
    (hL : K.length ≤ 100000)
    (hLt : t.length ≤ 100)
    (hpos : 0 < M) (hw1 : IntKind.i64.wrap ((K.length : Int) - 1) = (M : Int))
    (hT : Sl w (.slice T t.length cS) t)
    (hA : ∀ W, Below w.heap.size w W → Calls Tryd.prog 9 #[] W fun e w' => e = .returned (.bool true) ∧ Below W.heap.size W w')
    (hSm : ∀ W, Below w.heap.size w W → Calls Tryd.prog 10 #[.agg #[.int .i64 x.op, .int .i64 x.A, .int .i64 x.B, .int .u64 x.K, .slice P n c]] W fun e w' => e = .returned (.bool true) ∧ Below W.heap.size W w')
    (hP : ∀ W, Below w.heap.size w W → Calls Tryd.prog 13 #[.slice A N cN, .agg #[.int .i64 x.op, .int .i64 x.A, .int .i64 x.B, .int .u64 x.K, .slice P n c]] W (PutM K W))
    (hSn : ∀ W, Below w.heap.size w W → Calls Tryd.prog 18 #[.agg #[.int .i64 x.op, .int .i64 x.A, .int .i64 x.B, .int .u64 x.K, .slice P n c]] W fun e w' => e = .returned (.bool true) ∧ Below W.heap.size W w')
    (hR : ∀ W, Below w.heap.size w W → ∀ v, Sl W v ([] ++ K ++ t) → Calls Tryd.prog 11 #[v, .int .i64 (N : Int)] W (RiTold (x, (K.length : Int), 0) W))
    (hQ : ∀ W, Below w.heap.size w W → ∀ v, Sl W v (K.take M) → Calls Tryd.prog 11 #[v, .int .i64 (N : Int)] W (RiTold (⟨0, 0, 0, 0, []⟩, 0, 2) W))
    (hE : ∀ W, Below w.heap.size w W → ∀ o, SlI W o x.L → Calls Tryd.prog 20 #[.agg #[.int .i64 x.op, .int .i64 x.A, .int .i64 x.B, .int .u64 x.K, .slice P n c], .agg #[.int .i64 x.op, .int .i64 x.A, .int .i64 x.B, .int .u64 x.K, o]] W fun e w' => e = .returned (.bool true) ∧ Below W.heap.size W w')
    : Calls Tryd.prog 4 #[.slice A N cN, .agg #[.int .i64 x.op, .int .i64 x.A, .int .i64 x.B, .int .u64 x.K, .slice P n c], .slice T t.length cS] w fun e w' => e = .returned (.bool true) ∧ Below w.heap.size w w' := by
  have HM := Lib.hid hM
  have HL := Lib.hid hL
  have HLt := Lib.hid hLt
  have HT := Lib.hid hT
  clear hM hL hLt hT
  have HA := Lib.hid hA
  have HSm := Lib.hid hSm
  have HP := Lib.hid hP
  have HSn := Lib.hid hSn
  have HR := Lib.hid hR
  have HQ := Lib.hid hQ
  have HE := Lib.hid hE
  clear hA hSm hP hSn hR hQ hE
  have HW := Lib.hid ((Below.refl w.heap.size w).alloc (Nat.le_refl _) (.cells #[.int .i64 x.op, .int .i64 x.A, .int .i64 x.B, .int .u64 x.K, .slice P n c] 26))
  have HX := Lib.hid (InAt.at_ w w.heap.size x.op x.A x.B x.K (.slice P n c) 26 rfl)
  obtain ⟨_, q1, q2, q3, q4, q5, _, _, _, _, _⟩ := HX.out
  go_enter Tryd.func4, Tryd.ntmps4
  go_wp2_with fail
  refine (HA.out _ HW.out).mono ?_
  rintro e w1 ⟨rfl, hb⟩
  have HX := Lib.hid (HX.out.keep hb)
  have HW := Lib.hid (HW.out.trans (hb.mono HW.out.size))
  clear hb
  clear q1 q2 q3 q4 q5
  obtain ⟨_, q1, q2, q3, q4, q5, _, _, _, _, _⟩ := HX.out
  go_wp2_with fail
  refine (HSm.out _ HW.out).mono ?_
  rintro e w2 ⟨rfl, hb⟩
  have HX := Lib.hid (HX.out.keep hb)
  have HW := Lib.hid (HW.out.trans (hb.mono HW.out.size))
  clear hb
  clear q1 q2 q3 q4 q5
  obtain ⟨_, q1, q2, q3, q4, q5, _, _, _, _, _⟩ := HX.out
  go_wp2_with fail
  refine (HP.out _ HW.out).mono ?_
  rintro e w3 ⟨g, off, cB, rfl, hs, hcB, hcm, hb⟩
  have HX := Lib.hid (HX.out.keep hb)
  have HW := Lib.hid (HW.out.trans (hb.mono HW.out.size))
  have HK := Lib.hid hs
  have hin1 : (0 : Int) ≤ (M : Int) := by omega
  have hin2 : (M : Int) ≤ (cB : Int) := by have := HM.out; omega
  clear hs hcm
  clear hb
  clear q1 q2 q3 q4 q5
  obtain ⟨_, q1, q2, q3, q4, q5, _, _, _, _, _⟩ := HX.out
  have HTw := Lib.hid (HT.out.keep HW.out)
  go_wp2_with (at_builtin; refine Leb.wp_bytes _ rfl (.tmp 51) (.tmp 52) rfl w3.heap.size w3.heap.size _ [] K rfl (Leb.own_none w3) (some ⟨g, off, none⟩) cB rfl ((HK.out.leb).keep ((Below.refl w3.heap.size w3).alloc (Nat.le_refl _) (.cells #[] 5))) (by have := HL.out; simp; omega) (by simp) ?_; intro v4 w4 ho4 hb4; have HO4 := Lib.hid ho4; have HB4 := Lib.hid (((Below.refl w3.heap.size w3).alloc (Nat.le_refl _) (.cells #[] 5)).trans hb4); clear ho4 hb4; go_wp2_with (at_builtin; refine Leb.wp_bytes w4 rfl (.tmp 53) (.tmp 54) rfl w3.heap.size w4.heap.size _ ([] ++ K) t rfl HO4.out T cS rfl ((HTw.out.keep HB4.out).leb) (by have := HL.out; have := HLt.out; simp; omega) HB4.out.size ?_; intro v5 w5 ho5 hb5; have HS5 := Lib.hid (own_slI ho5); have HB5 := Lib.hid (HB4.out.trans hb5); clear ho5 hb5; have HX := Lib.hid (HX.out.keep HB5.out); have HK := Lib.hid (HK.out.keep HB5.out); have HW := Lib.hid (HW.out.trans (HB5.out.mono HW.out.size)); clear q1 q2 q3 q4 q5; obtain ⟨_, q1, q2, q3, q4, q5, _, _, _, _, _⟩ := HX.out; go_wp2_with fail))
  refine (HR.out _ HW.out _ HS5.out).mono ?_
  rintro e w6 ⟨o, rfl, ho, hb⟩
  obtain ⟨PO, cO, rfl⟩ := ho.form
  have HO := Lib.hid (OwnI.slI ho)
  have HX := Lib.hid (HX.out.keep hb)
  have HK := Lib.hid (HK.out.keep hb)
  have HW := Lib.hid (HW.out.trans (hb.mono HW.out.size))
  clear hb ho
  obtain ⟨nL, hnL⟩ : ∃ nL, x.L.length = nL := ⟨_, rfl⟩
  rw [hnL] at HO
  rw [hnL]
  clear hnL
  clear q1 q2 q3 q4 q5
  obtain ⟨_, q1, q2, q3, q4, q5, _, _, _, _, _⟩ := HX.out
  have HTA := Lib.hid ((Below.refl w6.heap.size w6).alloc (Nat.le_refl _) (.cells #[.int .i64 x.op, .int .i64 x.A, .int .i64 x.B, .int .u64 x.K, .slice PO nL cO] 26))
  have HY := Lib.hid (InAt.at_ w6 w6.heap.size x.op x.A x.B x.K (.slice PO nL cO) 26 rfl)
  go_wp2_with fail
  refine (HQ.out _ (HW.out.trans (HTA.out.mono HW.out.size)) _ (icut_sl (HK.out.keep HTA.out) HM.out)).mono ?_
  rintro e w7 ⟨o7, rfl, ho7, hb⟩
  obtain ⟨P7, c7, rfl⟩ := ho7.form
  have hbb := HTA.out.trans (hb.mono HTA.out.size)
  have HX := Lib.hid (HX.out.keep hbb)
  have HY := Lib.hid (HY.out.keep hb)
  have HO := Lib.hid (HO.out.keep hbb)
  have HW := Lib.hid (HW.out.trans (hbb.mono HW.out.size))
  clear hb hbb ho7
  clear q1 q2 q3 q4 q5
  have HTB := Lib.hid ((Below.refl w7.heap.size w7).alloc (Nat.le_refl _) (.cells #[.int .i64 0, .int .i64 0, .int .i64 0, .int .u64 0, .slice P7 0 c7] 26))
  have HX := Lib.hid (HX.out.keep HTB.out)
  have HY := Lib.hid (HY.out.keep HTB.out)
  have HO := Lib.hid (HO.out.keep HTB.out)
  have HW := Lib.hid (HW.out.trans (HTB.out.mono HW.out.size))
  obtain ⟨_, q1, q2, q3, q4, q5, _, _, _, _, _⟩ := HX.out
  obtain ⟨_, r1, r2, r3, r4, r5, _, _, _, _, _⟩ := HY.out
  go_wp2_with fail
  refine (HSn.out _ HW.out).mono ?_
  rintro e w8 ⟨rfl, hb⟩
  have HX := Lib.hid (HX.out.keep hb)
  have HY := Lib.hid (HY.out.keep hb)
  have HO := Lib.hid (HO.out.keep hb)
  have HW := Lib.hid (HW.out.trans (hb.mono HW.out.size))
  clear hb q1 q2 q3 q4 q5 r1 r2 r3 r4 r5
  obtain ⟨_, q1, q2, q3, q4, q5, _, _, _, _, _⟩ := HX.out
  obtain ⟨_, r1, r2, r3, r4, r5, _, _, _, _, _⟩ := HY.out
  go_wp2_with fail
  refine (HE.out _ HW.out _ HO.out).mono ?_
  rintro e w9 ⟨rfl, hb⟩
  have HW := Lib.hid (HW.out.trans (hb.mono HW.out.size))
  clear hb
  go_wp2_with fail
  go_ret
  exact ⟨rfl, HW.out⟩
theorem iback_ok0 (x : Ins) (P : Option Addr) (n c : Nat) (A T : Option Addr) (N cN S cS : Nat) (w : World) (K t : List Int)
    (t1 : decide ((100 : Int) < (N : Int)) = false)
    (t2 : decide ((100 : Int) < (t.length : Int)) = false)
    (hM : K.length = 0 + 1)
    (hL : K.length ≤ 100000)
    (hLt : t.length ≤ 100)
    (hw1 : IntKind.i64.wrap ((K.length : Int) - 1) = 0)
    (hT : Sl w (.slice T t.length cS) t)
    (hA : ∀ W, Below w.heap.size w W → Calls Tryd.prog 9 #[] W fun e w' => e = .returned (.bool true) ∧ Below W.heap.size W w')
    (hSm : ∀ W, Below w.heap.size w W → Calls Tryd.prog 10 #[.agg #[.int .i64 x.op, .int .i64 x.A, .int .i64 x.B, .int .u64 x.K, .slice P n c]] W fun e w' => e = .returned (.bool true) ∧ Below W.heap.size W w')
    (hP : ∀ W, Below w.heap.size w W → Calls Tryd.prog 13 #[.slice A N cN, .agg #[.int .i64 x.op, .int .i64 x.A, .int .i64 x.B, .int .u64 x.K, .slice P n c]] W (PutM K W))
    (hSn : ∀ W, Below w.heap.size w W → Calls Tryd.prog 18 #[.agg #[.int .i64 x.op, .int .i64 x.A, .int .i64 x.B, .int .u64 x.K, .slice P n c]] W fun e w' => e = .returned (.bool true) ∧ Below W.heap.size W w')
    (hR : ∀ W, Below w.heap.size w W → ∀ v, Sl W v ([] ++ K ++ t) → Calls Tryd.prog 11 #[v, .int .i64 (N : Int)] W (RiTold (x, (K.length : Int), 0) W))
    (hQ : ∀ W, Below w.heap.size w W → ∀ v, Sl W v (K.take 0) → Calls Tryd.prog 11 #[v, .int .i64 (N : Int)] W (RiTold (⟨0, 0, 0, 0, []⟩, 0, 2) W))
    (hE : ∀ W, Below w.heap.size w W → ∀ o, SlI W o x.L → Calls Tryd.prog 20 #[.agg #[.int .i64 x.op, .int .i64 x.A, .int .i64 x.B, .int .u64 x.K, .slice P n c], .agg #[.int .i64 x.op, .int .i64 x.A, .int .i64 x.B, .int .u64 x.K, o]] W fun e w' => e = .returned (.bool true) ∧ Below W.heap.size W w')
    : Calls Tryd.prog 4 #[.slice A N cN, .agg #[.int .i64 x.op, .int .i64 x.A, .int .i64 x.B, .int .u64 x.K, .slice P n c], .slice T t.length cS] w fun e w' => e = .returned (.bool true) ∧ Below w.heap.size w w' := by
  have HM := Lib.hid hM
  have HL := Lib.hid hL
  have HLt := Lib.hid hLt
  have HT := Lib.hid hT
  clear hM hL hLt hT
  have HA := Lib.hid hA
  have HSm := Lib.hid hSm
  have HP := Lib.hid hP
  have HSn := Lib.hid hSn
  have HR := Lib.hid hR
  have HQ := Lib.hid hQ
  have HE := Lib.hid hE
  clear hA hSm hP hSn hR hQ hE
  have HW := Lib.hid ((Below.refl w.heap.size w).alloc (Nat.le_refl _) (.cells #[.int .i64 x.op, .int .i64 x.A, .int .i64 x.B, .int .u64 x.K, .slice P n c] 26))
  have HX := Lib.hid (InAt.at_ w w.heap.size x.op x.A x.B x.K (.slice P n c) 26 rfl)
  obtain ⟨_, q1, q2, q3, q4, q5, _, _, _, _, _⟩ := HX.out
  go_enter Tryd.func4, Tryd.ntmps4
  go_wp2_with fail
  refine (HA.out _ HW.out).mono ?_
  rintro e w1 ⟨rfl, hb⟩
  have HX := Lib.hid (HX.out.keep hb)
  have HW := Lib.hid (HW.out.trans (hb.mono HW.out.size))
  clear hb
  clear q1 q2 q3 q4 q5
  obtain ⟨_, q1, q2, q3, q4, q5, _, _, _, _, _⟩ := HX.out
  go_wp2_with fail
  refine (HSm.out _ HW.out).mono ?_
  rintro e w2 ⟨rfl, hb⟩
  have HX := Lib.hid (HX.out.keep hb)
  have HW := Lib.hid (HW.out.trans (hb.mono HW.out.size))
  clear hb
  clear q1 q2 q3 q4 q5
  obtain ⟨_, q1, q2, q3, q4, q5, _, _, _, _, _⟩ := HX.out
  go_wp2_with fail
  refine (HP.out _ HW.out).mono ?_
  rintro e w3 ⟨g, off, cB, rfl, hs, hcB, hcm, hb⟩
  have HX := Lib.hid (HX.out.keep hb)
  have HW := Lib.hid (HW.out.trans (hb.mono HW.out.size))
  have HK := Lib.hid hs
  have hin1 : (0 : Int) ≤ 0 := by omega
  have hin2 : 0 ≤ (cB : Int) := by have := HM.out; omega
  clear hs hcm
  clear hb
  clear q1 q2 q3 q4 q5
  obtain ⟨_, q1, q2, q3, q4, q5, _, _, _, _, _⟩ := HX.out
  have HTw := Lib.hid (HT.out.keep HW.out)
  go_wp2_with (at_builtin; refine Leb.wp_bytes _ rfl (.tmp 51) (.tmp 52) rfl w3.heap.size w3.heap.size _ [] K rfl (Leb.own_none w3) (some ⟨g, off, none⟩) cB rfl ((HK.out.leb).keep ((Below.refl w3.heap.size w3).alloc (Nat.le_refl _) (.cells #[] 5))) (by have := HL.out; simp; omega) (by simp) ?_; intro v4 w4 ho4 hb4; have HO4 := Lib.hid ho4; have HB4 := Lib.hid (((Below.refl w3.heap.size w3).alloc (Nat.le_refl _) (.cells #[] 5)).trans hb4); clear ho4 hb4; go_wp2_with (at_builtin; refine Leb.wp_bytes w4 rfl (.tmp 53) (.tmp 54) rfl w3.heap.size w4.heap.size _ ([] ++ K) t rfl HO4.out T cS rfl ((HTw.out.keep HB4.out).leb) (by have := HL.out; have := HLt.out; simp; omega) HB4.out.size ?_; intro v5 w5 ho5 hb5; have HS5 := Lib.hid (own_slI ho5); have HB5 := Lib.hid (HB4.out.trans hb5); clear ho5 hb5; have HX := Lib.hid (HX.out.keep HB5.out); have HK := Lib.hid (HK.out.keep HB5.out); have HW := Lib.hid (HW.out.trans (HB5.out.mono HW.out.size)); clear q1 q2 q3 q4 q5; obtain ⟨_, q1, q2, q3, q4, q5, _, _, _, _, _⟩ := HX.out; go_wp2_with fail))
  refine (HR.out _ HW.out _ HS5.out).mono ?_
  rintro e w6 ⟨o, rfl, ho, hb⟩
  obtain ⟨PO, cO, rfl⟩ := ho.form
  have HO := Lib.hid (OwnI.slI ho)
  have HX := Lib.hid (HX.out.keep hb)
  have HK := Lib.hid (HK.out.keep hb)
  have HW := Lib.hid (HW.out.trans (hb.mono HW.out.size))
  clear hb ho
  obtain ⟨nL, hnL⟩ : ∃ nL, x.L.length = nL := ⟨_, rfl⟩
  rw [hnL] at HO
  rw [hnL]
  clear hnL
  clear q1 q2 q3 q4 q5
  obtain ⟨_, q1, q2, q3, q4, q5, _, _, _, _, _⟩ := HX.out
  have HTA := Lib.hid ((Below.refl w6.heap.size w6).alloc (Nat.le_refl _) (.cells #[.int .i64 x.op, .int .i64 x.A, .int .i64 x.B, .int .u64 x.K, .slice PO nL cO] 26))
  have HY := Lib.hid (InAt.at_ w6 w6.heap.size x.op x.A x.B x.K (.slice PO nL cO) 26 rfl)
  go_wp2_with fail
  refine (HQ.out _ (HW.out.trans (HTA.out.mono HW.out.size)) _ (icut_sl (HK.out.keep HTA.out) HM.out)).mono ?_
  rintro e w7 ⟨o7, rfl, ho7, hb⟩
  obtain ⟨P7, c7, rfl⟩ := ho7.form
  have hbb := HTA.out.trans (hb.mono HTA.out.size)
  have HX := Lib.hid (HX.out.keep hbb)
  have HY := Lib.hid (HY.out.keep hb)
  have HO := Lib.hid (HO.out.keep hbb)
  have HW := Lib.hid (HW.out.trans (hbb.mono HW.out.size))
  clear hb hbb ho7
  clear q1 q2 q3 q4 q5
  have HTB := Lib.hid ((Below.refl w7.heap.size w7).alloc (Nat.le_refl _) (.cells #[.int .i64 0, .int .i64 0, .int .i64 0, .int .u64 0, .slice P7 0 c7] 26))
  have HX := Lib.hid (HX.out.keep HTB.out)
  have HY := Lib.hid (HY.out.keep HTB.out)
  have HO := Lib.hid (HO.out.keep HTB.out)
  have HW := Lib.hid (HW.out.trans (HTB.out.mono HW.out.size))
  obtain ⟨_, q1, q2, q3, q4, q5, _, _, _, _, _⟩ := HX.out
  obtain ⟨_, r1, r2, r3, r4, r5, _, _, _, _, _⟩ := HY.out
  go_wp2_with fail
  refine (HSn.out _ HW.out).mono ?_
  rintro e w8 ⟨rfl, hb⟩
  have HX := Lib.hid (HX.out.keep hb)
  have HY := Lib.hid (HY.out.keep hb)
  have HO := Lib.hid (HO.out.keep hb)
  have HW := Lib.hid (HW.out.trans (hb.mono HW.out.size))
  clear hb q1 q2 q3 q4 q5 r1 r2 r3 r4 r5
  obtain ⟨_, q1, q2, q3, q4, q5, _, _, _, _, _⟩ := HX.out
  obtain ⟨_, r1, r2, r3, r4, r5, _, _, _, _, _⟩ := HY.out
  go_wp2_with fail
  refine (HE.out _ HW.out _ HO.out).mono ?_
  rintro e w9 ⟨rfl, hb⟩
  have HW := Lib.hid (HW.out.trans (hb.mono HW.out.size))
  clear hb
  go_wp2_with fail
  go_ret
  exact ⟨rfl, HW.out⟩
theorem iback_law (x : Ins) (P : Option Addr) (n c : Nat) (A T : Option Addr) (N cN S cS : Nat) (zx zb zt : List Int) (w : World) (hK : KTab w) (ex : x.L = zx.take n) (hx : Leb.Came .i64 w P n c zx) (hb : Leb.Came .u8 w A N cN zb) (ht : Leb.Came .u8 w T S cS zt) (ux : u64R x.K) :
    Calls Tryd.prog 4 #[.slice A N cN, .agg #[.int .i64 x.op, .int .i64 x.A, .int .i64 x.B, .int .u64 x.K, .slice P n c], .slice T S cS] w fun e w' => e = .returned (.bool true) ∧ Below w.heap.size w w' := by
  have sx := came_slI hx
  rw [← ex] at sx
  obtain ⟨sb, bb⟩ := came_sl hb
  obtain ⟨st, bt⟩ := came_sl ht
  obtain ⟨lb_, _⟩ := came_parts hb
  obtain ⟨lt_, _⟩ := came_parts ht
  have hA := fun W (hW : Below w.heap.size w W) => awake_any W (hK.keep hW)
  cases h1 : decide ((100 : Int) < (N : Int)) with
  | true => exact iback_big1 x P n c A T N cN S cS w h1 hA
  | false =>
    cases h2 : decide ((100 : Int) < (S : Int)) with
    | true => exact iback_big2 x P n c A T N cN S cS w h1 h2 hA
    | false =>
      have hSm := fun W (hW : Below w.heap.size w W) => small_core x.op x.A x.B x.K P n c W _ rfl
      cases h3 : decide ((n : Int) ≤ 100) with
      | false => rw [h3] at hSm; exact iback_big3 x P n c A T N cN S cS w h1 h2 hA hSm
      | true =>
        rw [h3] at hSm
        have hN : N ≤ 100 := by have := of_decide_eq_false h1; omega
        have hS' : S ≤ 100 := by have := of_decide_eq_false h2; omega
        have hP := fun W (hW : Below w.heap.size w W) => pput_any (x := x) (sb.keep hW) (by omega) (sx.keep hW) ux (hK.keep hW)
        have hSn : ∀ W, Below w.heap.size w W → _ := fun W hW => psane_any (x := x) (sx.keep hW) ux (hK.keep hW)
        unfold PutIs at hP
        cases hs : saneI x with
        | false =>
          rw [hs] at hP hSn
          exact iback_no x P n c A T N cN S cS w h1 h2 hA hSm hP hSn
        | true =>
          rw [hs] at hP hSn
          obtain ⟨i1, i2, i3, _⟩ := ib_facts ux hs
          revert sb st bb bt lb_ lt_ hP
          generalize zb.take N = b
          generalize zt.take S = t
          intro sb bb st bt lb_ lt_ hP
          subst lt_
          have hlen : (b ++ ib x).length = b.length + (ib x).length := List.length_append
          have hP' : ∀ W, Below w.heap.size w W → Calls Tryd.prog 13 #[.slice A N cN, .agg #[.int .i64 x.op, .int .i64 x.A, .int .i64 x.B, .int .u64 x.K, .slice P n c]] W (PutM (b ++ ib x) W) := fun W hW => (hP W hW).mono fun _ _ h => PutTold.m (by omega) h
          have hbK : ∀ y ∈ b ++ ib x, 0 ≤ y ∧ y < 256 := fun y hy => (List.mem_append.1 hy).elim (bb y) (i3 y)
          have hRR : ∀ W, Below w.heap.size w W → ∀ v, Sl W v ([] ++ (b ++ ib x) ++ t) → Calls Tryd.prog 11 #[v, .int .i64 (N : Int)] W (RiTold (x, ((b ++ ib x).length : Int), 0) W) := by
            intro W hW v hv
            rw [List.nil_append] at hv
            have := pread_any (l := b ++ ib x ++ t) (b.length : Int) hv (fun y hy => (List.mem_append.1 hy).elim (hbK y) (bt y)) (by rw [List.length_append]; omega) (hK.keep hW)
            rw [List.append_assoc, rdo_back ux hs b t, ← hlen, lb_] at this
            exact this
          have hQQ : ∀ W, Below w.heap.size w W → ∀ v, Sl W v ((b ++ ib x).take ((b ++ ib x).length - 1)) → Calls Tryd.prog 11 #[v, .int .i64 (N : Int)] W (RiTold (⟨0, 0, 0, 0, []⟩, 0, 2) W) := by
            intro W hW v hv
            rw [take_cut i1] at hv
            have := pread_any (l := b ++ (ib x).take ((ib x).length - 1)) (b.length : Int) hv (fun y hy => (List.mem_append.1 hy).elim (bb y) (fun h => i3 y (List.mem_of_mem_take h))) (by rw [List.length_append, List.length_take]; omega) (hK.keep hW)
            rw [rdo_cut ux hs b, lb_] at this
            exact this
          have hEE : ∀ W, Below w.heap.size w W → ∀ o, SlI W o x.L → Calls Tryd.prog 20 #[.agg #[.int .i64 x.op, .int .i64 x.A, .int .i64 x.B, .int .u64 x.K, .slice P n c], .agg #[.int .i64 x.op, .int .i64 x.A, .int .i64 x.B, .int .u64 x.K, o]] W fun e w' => e = .returned (.bool true) ∧ Below W.heap.size W w' := by
            intro W hW o ho
            have := psame_any (x := x) (y := x) (sx.keep hW) ho
            rw [show smI x x = true from by unfold smI; simp] at this
            exact this
          by_cases hpos : 0 < (b ++ ib x).length - 1
          · exact iback_ok x P n c A T N cN 0 cS w (b ++ ib x) t ((b ++ ib x).length - 1) h1 h2 (by omega) (by omega) (by omega) hpos (by rw [IntKind.wrap_i64]; omega) st hA hSm hP' hSn hRR hQQ hEE
          · have hz : (b ++ ib x).length - 1 = 0 := by omega
            rw [hz] at hQQ
            exact iback_ok0 x P n c A T N cN 0 cS w (b ++ ib x) t h1 h2 (by omega) (by omega) (by omega) (by rw [IntKind.wrap_i64]; omega) st hA hSm hP' hSn hRR hQQ hEE
end Go.Proofs.YtmjimijolfjhmaaDoor.Ins
