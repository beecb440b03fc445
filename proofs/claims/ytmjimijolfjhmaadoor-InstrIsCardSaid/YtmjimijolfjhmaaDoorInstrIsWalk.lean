/- InstrIs walked: what any bytes tell, any instruction's bytes, whether it may be, is another one, any code's kind, and what it reads or writes: by the program as by the document. -/
import Derived.Test.YtmjimijolfjhmaaDoorInsPAwake
import Derived.Test.YtmjimijolfjhmaaDoorInsTold
import Derived.Test.YtmjimijolfjhmaaDoorInsStab
import Derived.Test.YtmjimijolfjhmaaDoorInsDPutAny
namespace Go.Proofs.YtmjimijolfjhmaaDoor.Ins
open Go.RowKit Ints Typ
set_option maxRecDepth 100000
set_option maxHeartbeats 2000000
set_option linter.unusedVariables false

theorem iis_big (x y : Ins) (P Q : Option Addr) (n c m d : Nat) (A : Option Addr) (N cN : Nat) (at_ op : Int) (w : World) 
    (t1 : decide ((500 : Int) < (N : Int)) = true)
    (hA : ∀ W, Below w.heap.size w W → Calls Tryd.prog 9 #[] W fun e w' => e = .returned (.bool true) ∧ Below W.heap.size W w')
    : Calls Tryd.prog 3 #[.slice A N cN, .int .i64 at_, .agg #[.int .i64 x.op, .int .i64 x.A, .int .i64 x.B, .int .u64 x.K, .slice P n c], .agg #[.int .i64 y.op, .int .i64 y.A, .int .i64 y.B, .int .u64 y.K, .slice Q m d], .int .i64 op] w fun e w' => e = .returned (.bool true) ∧ Below w.heap.size w w' := by
  have HA := Lib.hid hA
  clear hA
  have HW := Lib.hid (((Below.refl w.heap.size w).alloc (Nat.le_refl _) (.cells #[.int .i64 x.op, .int .i64 x.A, .int .i64 x.B, .int .u64 x.K, .slice P n c] 26)).alloc (by simp) (.cells #[.int .i64 y.op, .int .i64 y.A, .int .i64 y.B, .int .u64 y.K, .slice Q m d] 26))
  have HX := Lib.hid ((InAt.at_ w w.heap.size x.op x.A x.B x.K (.slice P n c) 26 rfl).keep ((Below.refl _ _).alloc (Nat.le_refl _) (.cells #[.int .i64 y.op, .int .i64 y.A, .int .i64 y.B, .int .u64 y.K, .slice Q m d] 26)))
  have HYY := Lib.hid (InAt.at_ (w.alloc (.cells #[.int .i64 x.op, .int .i64 x.A, .int .i64 x.B, .int .u64 x.K, .slice P n c] 26)) (w.heap.size + 1) y.op y.A y.B y.K (.slice Q m d) 26 (by simp))
  obtain ⟨_, q1_, q2_, q3_, q4_, q5_, _, _, _, _, _⟩ := HX.out
  obtain ⟨_, r1_, r2_, r3_, r4_, r5_, _, _, _, _, _⟩ := HYY.out
  go_enter Tryd.func3, Tryd.ntmps3
  go_wp2_with fail
  refine (HA.out _ HW.out).mono ?_
  rintro e w1 ⟨rfl, hb⟩
  have HX := Lib.hid (HX.out.keep hb)
  have HYY := Lib.hid (HYY.out.keep hb)
  have HW := Lib.hid (HW.out.trans (hb.mono HW.out.size))
  clear hb
  clear q1_ q2_ q3_ q4_ q5_ r1_ r2_ r3_ r4_ r5_
  obtain ⟨_, q1_, q2_, q3_, q4_, q5_, _, _, _, _, _⟩ := HX.out
  obtain ⟨_, r1_, r2_, r3_, r4_, r5_, _, _, _, _, _⟩ := HYY.out
  go_wp2_with fail
  go_ret
  exact ⟨rfl, HW.out⟩
theorem iis_far1 (x y : Ins) (P Q : Option Addr) (n c m d : Nat) (A : Option Addr) (N cN : Nat) (at_ op : Int) (w : World) 
    (t1 : decide ((500 : Int) < (N : Int)) = false)
    (hA : ∀ W, Below w.heap.size w W → Calls Tryd.prog 9 #[] W fun e w' => e = .returned (.bool true) ∧ Below W.heap.size W w')
    (hS1 : ∀ W, Below w.heap.size w W → Calls Tryd.prog 10 #[.agg #[.int .i64 x.op, .int .i64 x.A, .int .i64 x.B, .int .u64 x.K, .slice P n c]] W fun e w' => e = .returned (.bool false) ∧ Below W.heap.size W w')
    : Calls Tryd.prog 3 #[.slice A N cN, .int .i64 at_, .agg #[.int .i64 x.op, .int .i64 x.A, .int .i64 x.B, .int .u64 x.K, .slice P n c], .agg #[.int .i64 y.op, .int .i64 y.A, .int .i64 y.B, .int .u64 y.K, .slice Q m d], .int .i64 op] w fun e w' => e = .returned (.bool true) ∧ Below w.heap.size w w' := by
  have HA := Lib.hid hA
  have HS1 := Lib.hid hS1
  clear hA hS1
  have HW := Lib.hid (((Below.refl w.heap.size w).alloc (Nat.le_refl _) (.cells #[.int .i64 x.op, .int .i64 x.A, .int .i64 x.B, .int .u64 x.K, .slice P n c] 26)).alloc (by simp) (.cells #[.int .i64 y.op, .int .i64 y.A, .int .i64 y.B, .int .u64 y.K, .slice Q m d] 26))
  have HX := Lib.hid ((InAt.at_ w w.heap.size x.op x.A x.B x.K (.slice P n c) 26 rfl).keep ((Below.refl _ _).alloc (Nat.le_refl _) (.cells #[.int .i64 y.op, .int .i64 y.A, .int .i64 y.B, .int .u64 y.K, .slice Q m d] 26)))
  have HYY := Lib.hid (InAt.at_ (w.alloc (.cells #[.int .i64 x.op, .int .i64 x.A, .int .i64 x.B, .int .u64 x.K, .slice P n c] 26)) (w.heap.size + 1) y.op y.A y.B y.K (.slice Q m d) 26 (by simp))
  obtain ⟨_, q1_, q2_, q3_, q4_, q5_, _, _, _, _, _⟩ := HX.out
  obtain ⟨_, r1_, r2_, r3_, r4_, r5_, _, _, _, _, _⟩ := HYY.out
  go_enter Tryd.func3, Tryd.ntmps3
  go_wp2_with fail
  refine (HA.out _ HW.out).mono ?_
  rintro e w1 ⟨rfl, hb⟩
  have HX := Lib.hid (HX.out.keep hb)
  have HYY := Lib.hid (HYY.out.keep hb)
  have HW := Lib.hid (HW.out.trans (hb.mono HW.out.size))
  clear hb
  clear q1_ q2_ q3_ q4_ q5_ r1_ r2_ r3_ r4_ r5_
  obtain ⟨_, q1_, q2_, q3_, q4_, q5_, _, _, _, _, _⟩ := HX.out
  obtain ⟨_, r1_, r2_, r3_, r4_, r5_, _, _, _, _, _⟩ := HYY.out
  go_wp2_with fail
  refine (HS1.out _ HW.out).mono ?_
  rintro e w2 ⟨rfl, hb⟩
  have HX := Lib.hid (HX.out.keep hb)
  have HYY := Lib.hid (HYY.out.keep hb)
  have HW := Lib.hid (HW.out.trans (hb.mono HW.out.size))
  clear hb
  clear q1_ q2_ q3_ q4_ q5_ r1_ r2_ r3_ r4_ r5_
  obtain ⟨_, q1_, q2_, q3_, q4_, q5_, _, _, _, _, _⟩ := HX.out
  obtain ⟨_, r1_, r2_, r3_, r4_, r5_, _, _, _, _, _⟩ := HYY.out
  go_wp2_with fail
  go_ret
  exact ⟨rfl, HW.out⟩
theorem iis_far2 (x y : Ins) (P Q : Option Addr) (n c m d : Nat) (A : Option Addr) (N cN : Nat) (at_ op : Int) (w : World) 
    (t1 : decide ((500 : Int) < (N : Int)) = false)
    (hA : ∀ W, Below w.heap.size w W → Calls Tryd.prog 9 #[] W fun e w' => e = .returned (.bool true) ∧ Below W.heap.size W w')
    (hS1 : ∀ W, Below w.heap.size w W → Calls Tryd.prog 10 #[.agg #[.int .i64 x.op, .int .i64 x.A, .int .i64 x.B, .int .u64 x.K, .slice P n c]] W fun e w' => e = .returned (.bool true) ∧ Below W.heap.size W w')
    (hS2 : ∀ W, Below w.heap.size w W → Calls Tryd.prog 10 #[.agg #[.int .i64 y.op, .int .i64 y.A, .int .i64 y.B, .int .u64 y.K, .slice Q m d]] W fun e w' => e = .returned (.bool false) ∧ Below W.heap.size W w')
    : Calls Tryd.prog 3 #[.slice A N cN, .int .i64 at_, .agg #[.int .i64 x.op, .int .i64 x.A, .int .i64 x.B, .int .u64 x.K, .slice P n c], .agg #[.int .i64 y.op, .int .i64 y.A, .int .i64 y.B, .int .u64 y.K, .slice Q m d], .int .i64 op] w fun e w' => e = .returned (.bool true) ∧ Below w.heap.size w w' := by
  have HA := Lib.hid hA
  have HS1 := Lib.hid hS1
  have HS2 := Lib.hid hS2
  clear hA hS1 hS2
  have HW := Lib.hid (((Below.refl w.heap.size w).alloc (Nat.le_refl _) (.cells #[.int .i64 x.op, .int .i64 x.A, .int .i64 x.B, .int .u64 x.K, .slice P n c] 26)).alloc (by simp) (.cells #[.int .i64 y.op, .int .i64 y.A, .int .i64 y.B, .int .u64 y.K, .slice Q m d] 26))
  have HX := Lib.hid ((InAt.at_ w w.heap.size x.op x.A x.B x.K (.slice P n c) 26 rfl).keep ((Below.refl _ _).alloc (Nat.le_refl _) (.cells #[.int .i64 y.op, .int .i64 y.A, .int .i64 y.B, .int .u64 y.K, .slice Q m d] 26)))
  have HYY := Lib.hid (InAt.at_ (w.alloc (.cells #[.int .i64 x.op, .int .i64 x.A, .int .i64 x.B, .int .u64 x.K, .slice P n c] 26)) (w.heap.size + 1) y.op y.A y.B y.K (.slice Q m d) 26 (by simp))
  obtain ⟨_, q1_, q2_, q3_, q4_, q5_, _, _, _, _, _⟩ := HX.out
  obtain ⟨_, r1_, r2_, r3_, r4_, r5_, _, _, _, _, _⟩ := HYY.out
  go_enter Tryd.func3, Tryd.ntmps3
  go_wp2_with fail
  refine (HA.out _ HW.out).mono ?_
  rintro e w1 ⟨rfl, hb⟩
  have HX := Lib.hid (HX.out.keep hb)
  have HYY := Lib.hid (HYY.out.keep hb)
  have HW := Lib.hid (HW.out.trans (hb.mono HW.out.size))
  clear hb
  clear q1_ q2_ q3_ q4_ q5_ r1_ r2_ r3_ r4_ r5_
  obtain ⟨_, q1_, q2_, q3_, q4_, q5_, _, _, _, _, _⟩ := HX.out
  obtain ⟨_, r1_, r2_, r3_, r4_, r5_, _, _, _, _, _⟩ := HYY.out
  go_wp2_with fail
  refine (HS1.out _ HW.out).mono ?_
  rintro e w2 ⟨rfl, hb⟩
  have HX := Lib.hid (HX.out.keep hb)
  have HYY := Lib.hid (HYY.out.keep hb)
  have HW := Lib.hid (HW.out.trans (hb.mono HW.out.size))
  clear hb
  clear q1_ q2_ q3_ q4_ q5_ r1_ r2_ r3_ r4_ r5_
  obtain ⟨_, q1_, q2_, q3_, q4_, q5_, _, _, _, _, _⟩ := HX.out
  obtain ⟨_, r1_, r2_, r3_, r4_, r5_, _, _, _, _, _⟩ := HYY.out
  go_wp2_with fail
  refine (HS2.out _ HW.out).mono ?_
  rintro e w3 ⟨rfl, hb⟩
  have HX := Lib.hid (HX.out.keep hb)
  have HYY := Lib.hid (HYY.out.keep hb)
  have HW := Lib.hid (HW.out.trans (hb.mono HW.out.size))
  clear hb
  clear q1_ q2_ q3_ q4_ q5_ r1_ r2_ r3_ r4_ r5_
  obtain ⟨_, q1_, q2_, q3_, q4_, q5_, _, _, _, _, _⟩ := HX.out
  obtain ⟨_, r1_, r2_, r3_, r4_, r5_, _, _, _, _, _⟩ := HYY.out
  go_wp2_with fail
  go_ret
  exact ⟨rfl, HW.out⟩
theorem iis_ok (x y : Ins) (P Q : Option Addr) (n c m d : Nat) (A : Option Addr) (N cN : Nat) (at_ op : Int) (w : World) (r : Ins) (rn re EX at1 at2 kk : Int) (BX : List Int) (b3 b4 sn sm : Bool)
    (t1 : decide ((500 : Int) < (N : Int)) = false)
    (hA : ∀ W, Below w.heap.size w W → Calls Tryd.prog 9 #[] W fun e w' => e = .returned (.bool true) ∧ Below W.heap.size W w')
    (hS1 : ∀ W, Below w.heap.size w W → Calls Tryd.prog 10 #[.agg #[.int .i64 x.op, .int .i64 x.A, .int .i64 x.B, .int .u64 x.K, .slice P n c]] W fun e w' => e = .returned (.bool true) ∧ Below W.heap.size W w')
    (hS2 : ∀ W, Below w.heap.size w W → Calls Tryd.prog 10 #[.agg #[.int .i64 y.op, .int .i64 y.A, .int .i64 y.B, .int .u64 y.K, .slice Q m d]] W fun e w' => e = .returned (.bool true) ∧ Below W.heap.size W w')
    (hR1 : ∀ W, Below w.heap.size w W → Calls Tryd.prog 11 #[.slice A N cN, .int .i64 at_] W (RiTold (r, rn, re) W))
    (hR2 : ∀ W, Below w.heap.size w W → Calls Tryd.prog 12 #[.slice A N cN, .int .i64 at_] W (RiTold (r, rn, re) W))
    (hP1 : ∀ W, Below w.heap.size w W → Calls Tryd.prog 13 #[.slice A N cN, .agg #[.int .i64 x.op, .int .i64 x.A, .int .i64 x.B, .int .u64 x.K, .slice P n c]] W (PutTold BX EX W))
    (hP2 : ∀ W, Below w.heap.size w W → Calls Tryd.prog 14 #[.slice A N cN, .agg #[.int .i64 x.op, .int .i64 x.A, .int .i64 x.B, .int .u64 x.K, .slice P n c]] W (PutTold BX EX W))
    (hX1 : ∀ W, Below w.heap.size w W → Calls Tryd.prog 15 #[.int .i64 op] W fun e w' => e = .returned (.tuple #[.int .u8 at1, .int .i64 at2, .bool b3, .bool b4]) ∧ Below W.heap.size W w')
    (hX2 : ∀ W, Below w.heap.size w W → Calls Tryd.prog 16 #[.int .i64 op] W fun e w' => e = .returned (.tuple #[.int .u8 at1, .int .i64 at2, .bool b3, .bool b4]) ∧ Below W.heap.size W w')
    (hE : ∀ W, Below w.heap.size w W → ∀ o p, SlI W o r.L → SlI W p r.L → Calls Tryd.prog 17 #[.agg #[.int .i64 r.op, .int .i64 r.A, .int .i64 r.B, .int .u64 r.K, o], .agg #[.int .i64 r.op, .int .i64 r.A, .int .i64 r.B, .int .u64 r.K, p]] W fun e w' => e = .returned (.bool true) ∧ Below W.heap.size W w')
    (hN1 : ∀ W, Below w.heap.size w W → Calls Tryd.prog 18 #[.agg #[.int .i64 x.op, .int .i64 x.A, .int .i64 x.B, .int .u64 x.K, .slice P n c]] W fun e w' => e = .returned (.bool sn) ∧ Below W.heap.size W w')
    (hN2 : ∀ W, Below w.heap.size w W → Calls Tryd.prog 19 #[.agg #[.int .i64 x.op, .int .i64 x.A, .int .i64 x.B, .int .u64 x.K, .slice P n c]] W fun e w' => e = .returned (.bool sn) ∧ Below W.heap.size W w')
    (hM1 : ∀ W, Below w.heap.size w W → Calls Tryd.prog 20 #[.agg #[.int .i64 x.op, .int .i64 x.A, .int .i64 x.B, .int .u64 x.K, .slice P n c], .agg #[.int .i64 y.op, .int .i64 y.A, .int .i64 y.B, .int .u64 y.K, .slice Q m d]] W fun e w' => e = .returned (.bool sm) ∧ Below W.heap.size W w')
    (hM2 : ∀ W, Below w.heap.size w W → Calls Tryd.prog 17 #[.agg #[.int .i64 x.op, .int .i64 x.A, .int .i64 x.B, .int .u64 x.K, .slice P n c], .agg #[.int .i64 y.op, .int .i64 y.A, .int .i64 y.B, .int .u64 y.K, .slice Q m d]] W fun e w' => e = .returned (.bool sm) ∧ Below W.heap.size W w')
    (hK1 : ∀ W, Below w.heap.size w W → Calls Tryd.prog 21 #[.int .i64 op] W fun e w' => e = .returned (.int .i64 kk) ∧ Below W.heap.size W w')
    (hK2 : ∀ W, Below w.heap.size w W → Calls Tryd.prog 22 #[.int .i64 op] W fun e w' => e = .returned (.int .i64 kk) ∧ Below W.heap.size W w')
    : Calls Tryd.prog 3 #[.slice A N cN, .int .i64 at_, .agg #[.int .i64 x.op, .int .i64 x.A, .int .i64 x.B, .int .u64 x.K, .slice P n c], .agg #[.int .i64 y.op, .int .i64 y.A, .int .i64 y.B, .int .u64 y.K, .slice Q m d], .int .i64 op] w fun e w' => e = .returned (.bool true) ∧ Below w.heap.size w w' := by
  have HA := Lib.hid hA
  have HS1 := Lib.hid hS1
  have HS2 := Lib.hid hS2
  have HR1 := Lib.hid hR1
  have HR2 := Lib.hid hR2
  have HP1 := Lib.hid hP1
  have HP2 := Lib.hid hP2
  have HX1 := Lib.hid hX1
  have HX2 := Lib.hid hX2
  have HE := Lib.hid hE
  have HN1 := Lib.hid hN1
  have HN2 := Lib.hid hN2
  have HM1 := Lib.hid hM1
  have HM2 := Lib.hid hM2
  have HK1 := Lib.hid hK1
  have HK2 := Lib.hid hK2
  clear hA hS1 hS2 hR1 hR2 hP1 hP2 hX1 hX2 hE hN1 hN2 hM1 hM2 hK1 hK2
  have HW := Lib.hid (((Below.refl w.heap.size w).alloc (Nat.le_refl _) (.cells #[.int .i64 x.op, .int .i64 x.A, .int .i64 x.B, .int .u64 x.K, .slice P n c] 26)).alloc (by simp) (.cells #[.int .i64 y.op, .int .i64 y.A, .int .i64 y.B, .int .u64 y.K, .slice Q m d] 26))
  have HX := Lib.hid ((InAt.at_ w w.heap.size x.op x.A x.B x.K (.slice P n c) 26 rfl).keep ((Below.refl _ _).alloc (Nat.le_refl _) (.cells #[.int .i64 y.op, .int .i64 y.A, .int .i64 y.B, .int .u64 y.K, .slice Q m d] 26)))
  have HYY := Lib.hid (InAt.at_ (w.alloc (.cells #[.int .i64 x.op, .int .i64 x.A, .int .i64 x.B, .int .u64 x.K, .slice P n c] 26)) (w.heap.size + 1) y.op y.A y.B y.K (.slice Q m d) 26 (by simp))
  obtain ⟨_, q1_, q2_, q3_, q4_, q5_, _, _, _, _, _⟩ := HX.out
  obtain ⟨_, r1_, r2_, r3_, r4_, r5_, _, _, _, _, _⟩ := HYY.out
  go_enter Tryd.func3, Tryd.ntmps3
  go_wp2_with fail
  refine (HA.out _ HW.out).mono ?_
  rintro e w1 ⟨rfl, hb⟩
  have HX := Lib.hid (HX.out.keep hb)
  have HYY := Lib.hid (HYY.out.keep hb)
  have HW := Lib.hid (HW.out.trans (hb.mono HW.out.size))
  clear hb
  clear q1_ q2_ q3_ q4_ q5_ r1_ r2_ r3_ r4_ r5_
  obtain ⟨_, q1_, q2_, q3_, q4_, q5_, _, _, _, _, _⟩ := HX.out
  obtain ⟨_, r1_, r2_, r3_, r4_, r5_, _, _, _, _, _⟩ := HYY.out
  go_wp2_with fail
  refine (HS1.out _ HW.out).mono ?_
  rintro e w2 ⟨rfl, hb⟩
  have HX := Lib.hid (HX.out.keep hb)
  have HYY := Lib.hid (HYY.out.keep hb)
  have HW := Lib.hid (HW.out.trans (hb.mono HW.out.size))
  clear hb
  clear q1_ q2_ q3_ q4_ q5_ r1_ r2_ r3_ r4_ r5_
  obtain ⟨_, q1_, q2_, q3_, q4_, q5_, _, _, _, _, _⟩ := HX.out
  obtain ⟨_, r1_, r2_, r3_, r4_, r5_, _, _, _, _, _⟩ := HYY.out
  go_wp2_with fail
  refine (HS2.out _ HW.out).mono ?_
  rintro e w3 ⟨rfl, hb⟩
  have HX := Lib.hid (HX.out.keep hb)
  have HYY := Lib.hid (HYY.out.keep hb)
  have HW := Lib.hid (HW.out.trans (hb.mono HW.out.size))
  clear hb
  clear q1_ q2_ q3_ q4_ q5_ r1_ r2_ r3_ r4_ r5_
  obtain ⟨_, q1_, q2_, q3_, q4_, q5_, _, _, _, _, _⟩ := HX.out
  obtain ⟨_, r1_, r2_, r3_, r4_, r5_, _, _, _, _, _⟩ := HYY.out
  go_wp2_with fail
  refine (HR1.out _ HW.out).mono ?_
  rintro e w4 ⟨o1, rfl, ho1, hb⟩
  have HX := Lib.hid (HX.out.keep hb)
  have HYY := Lib.hid (HYY.out.keep hb)
  have HW := Lib.hid (HW.out.trans (hb.mono HW.out.size))
  obtain ⟨P1, c1, rfl⟩ := ho1.form
  have HO1 := Lib.hid (OwnI.slI ho1)
  clear ho1
  obtain ⟨nL, hnL⟩ : ∃ nL, r.L.length = nL := ⟨_, rfl⟩
  rw [hnL] at HO1
  rw [hnL]
  have HNL := Lib.hid hnL
  clear hnL
  clear hb
  clear q1_ q2_ q3_ q4_ q5_ r1_ r2_ r3_ r4_ r5_
  obtain ⟨_, q1_, q2_, q3_, q4_, q5_, _, _, _, _, _⟩ := HX.out
  obtain ⟨_, r1_, r2_, r3_, r4_, r5_, _, _, _, _, _⟩ := HYY.out
  have HT1 := Lib.hid ((Below.refl w4.heap.size w4).alloc (Nat.le_refl _) (.cells #[.int .i64 r.op, .int .i64 r.A, .int .i64 r.B, .int .u64 r.K, .slice P1 nL c1] 26))
  have HI1 := Lib.hid (InAt.at_ w4 w4.heap.size r.op r.A r.B r.K (.slice P1 nL c1) 26 rfl)
  have HO1 := Lib.hid (HO1.out.keep HT1.out)
  go_wp2_with fail
  refine (HR2.out _ (HW.out.trans (HT1.out.mono HW.out.size))).mono ?_
  rintro e w5 ⟨o2, rfl, ho2, hb⟩
  obtain ⟨P2, c2, rfl⟩ := ho2.form
  have HO2 := Lib.hid (OwnI.slI ho2)
  rw [HNL.out] at HO2
  rw [HNL.out]
  clear ho2
  have HI1 := Lib.hid (HI1.out.keep hb)
  have HO1 := Lib.hid (HO1.out.keep hb)
  have hb := HT1.out.trans (hb.mono HT1.out.size)
  have HX := Lib.hid (HX.out.keep hb)
  have HYY := Lib.hid (HYY.out.keep hb)
  have HW := Lib.hid (HW.out.trans (hb.mono HW.out.size))
  clear hb
  clear q1_ q2_ q3_ q4_ q5_ r1_ r2_ r3_ r4_ r5_
  obtain ⟨_, q1_, q2_, q3_, q4_, q5_, _, _, _, _, _⟩ := HX.out
  obtain ⟨_, r1_, r2_, r3_, r4_, r5_, _, _, _, _, _⟩ := HYY.out
  obtain ⟨_, s1_, s2_, s3_, s4_, s5_, _, _, _, _, _⟩ := HI1.out
  have HT2 := Lib.hid ((Below.refl w5.heap.size w5).alloc (Nat.le_refl _) (.cells #[.int .i64 r.op, .int .i64 r.A, .int .i64 r.B, .int .u64 r.K, .slice P2 nL c2] 26))
  have HI2 := Lib.hid (InAt.at_ w5 w5.heap.size r.op r.A r.B r.K (.slice P2 nL c2) 26 rfl)
  have HX := Lib.hid (HX.out.keep HT2.out)
  have HYY := Lib.hid (HYY.out.keep HT2.out)
  have HI1 := Lib.hid (HI1.out.keep HT2.out)
  have HO1 := Lib.hid (HO1.out.keep HT2.out)
  have HO2 := Lib.hid (HO2.out.keep HT2.out)
  have HW := Lib.hid (HW.out.trans (HT2.out.mono HW.out.size))
  clear q1_ q2_ q3_ q4_ q5_ r1_ r2_ r3_ r4_ r5_ s1_ s2_ s3_ s4_ s5_
  obtain ⟨_, q1_, q2_, q3_, q4_, q5_, _, _, _, _, _⟩ := HX.out
  obtain ⟨_, r1_, r2_, r3_, r4_, r5_, _, _, _, _, _⟩ := HYY.out
  obtain ⟨_, s1_, s2_, s3_, s4_, s5_, _, _, _, _, _⟩ := HI1.out
  obtain ⟨_, u1_, u2_, u3_, u4_, u5_, _, _, _, _, _⟩ := HI2.out
  go_wp2_with fail
  refine (HP1.out _ HW.out).mono ?_
  rintro e w6 ⟨v1, rfl, hs1, hb⟩
  have HX := Lib.hid (HX.out.keep hb)
  have HYY := Lib.hid (HYY.out.keep hb)
  have HI1 := Lib.hid (HI1.out.keep hb)
  have HO1 := Lib.hid (HO1.out.keep hb)
  have HO2 := Lib.hid (HO2.out.keep hb)
  have HI2 := Lib.hid (HI2.out.keep hb)
  have HW := Lib.hid (HW.out.trans (hb.mono HW.out.size))
  have HC1 := Lib.hid hs1
  obtain ⟨AX, cX, rfl, _⟩ := id hs1
  clear hs1
  clear hb
  clear q1_ q2_ q3_ q4_ q5_ r1_ r2_ r3_ r4_ r5_ s1_ s2_ s3_ s4_ s5_ u1_ u2_ u3_ u4_ u5_
  obtain ⟨_, q1_, q2_, q3_, q4_, q5_, _, _, _, _, _⟩ := HX.out
  obtain ⟨_, r1_, r2_, r3_, r4_, r5_, _, _, _, _, _⟩ := HYY.out
  obtain ⟨_, s1_, s2_, s3_, s4_, s5_, _, _, _, _, _⟩ := HI1.out
  obtain ⟨_, u1_, u2_, u3_, u4_, u5_, _, _, _, _, _⟩ := HI2.out
  go_wp2_with fail
  refine (HP2.out _ HW.out).mono ?_
  rintro e w7 ⟨v2, rfl, hs2, hb⟩
  have HX := Lib.hid (HX.out.keep hb)
  have HYY := Lib.hid (HYY.out.keep hb)
  have HI1 := Lib.hid (HI1.out.keep hb)
  have HO1 := Lib.hid (HO1.out.keep hb)
  have HO2 := Lib.hid (HO2.out.keep hb)
  have HI2 := Lib.hid (HI2.out.keep hb)
  have HC1 := Lib.hid (HC1.out.keep hb)
  have HW := Lib.hid (HW.out.trans (hb.mono HW.out.size))
  have HC2 := Lib.hid hs2
  obtain ⟨AY, cY, rfl, _⟩ := id hs2
  clear hs2
  clear hb
  clear q1_ q2_ q3_ q4_ q5_ r1_ r2_ r3_ r4_ r5_ s1_ s2_ s3_ s4_ s5_ u1_ u2_ u3_ u4_ u5_
  obtain ⟨_, q1_, q2_, q3_, q4_, q5_, _, _, _, _, _⟩ := HX.out
  obtain ⟨_, r1_, r2_, r3_, r4_, r5_, _, _, _, _, _⟩ := HYY.out
  obtain ⟨_, s1_, s2_, s3_, s4_, s5_, _, _, _, _, _⟩ := HI1.out
  obtain ⟨_, u1_, u2_, u3_, u4_, u5_, _, _, _, _, _⟩ := HI2.out
  go_wp2_with fail
  refine (HX1.out _ HW.out).mono ?_
  rintro e w8 ⟨rfl, hb⟩
  have HX := Lib.hid (HX.out.keep hb)
  have HYY := Lib.hid (HYY.out.keep hb)
  have HI1 := Lib.hid (HI1.out.keep hb)
  have HO1 := Lib.hid (HO1.out.keep hb)
  have HO2 := Lib.hid (HO2.out.keep hb)
  have HI2 := Lib.hid (HI2.out.keep hb)
  have HC1 := Lib.hid (HC1.out.keep hb)
  have HC2 := Lib.hid (HC2.out.keep hb)
  have HW := Lib.hid (HW.out.trans (hb.mono HW.out.size))
  clear hb
  clear q1_ q2_ q3_ q4_ q5_ r1_ r2_ r3_ r4_ r5_ s1_ s2_ s3_ s4_ s5_ u1_ u2_ u3_ u4_ u5_
  obtain ⟨_, q1_, q2_, q3_, q4_, q5_, _, _, _, _, _⟩ := HX.out
  obtain ⟨_, r1_, r2_, r3_, r4_, r5_, _, _, _, _, _⟩ := HYY.out
  obtain ⟨_, s1_, s2_, s3_, s4_, s5_, _, _, _, _, _⟩ := HI1.out
  obtain ⟨_, u1_, u2_, u3_, u4_, u5_, _, _, _, _, _⟩ := HI2.out
  go_wp2_with fail
  refine (HX2.out _ HW.out).mono ?_
  rintro e w9 ⟨rfl, hb⟩
  have HX := Lib.hid (HX.out.keep hb)
  have HYY := Lib.hid (HYY.out.keep hb)
  have HI1 := Lib.hid (HI1.out.keep hb)
  have HO1 := Lib.hid (HO1.out.keep hb)
  have HO2 := Lib.hid (HO2.out.keep hb)
  have HI2 := Lib.hid (HI2.out.keep hb)
  have HC1 := Lib.hid (HC1.out.keep hb)
  have HC2 := Lib.hid (HC2.out.keep hb)
  have HW := Lib.hid (HW.out.trans (hb.mono HW.out.size))
  clear hb
  clear q1_ q2_ q3_ q4_ q5_ r1_ r2_ r3_ r4_ r5_ s1_ s2_ s3_ s4_ s5_ u1_ u2_ u3_ u4_ u5_
  obtain ⟨_, q1_, q2_, q3_, q4_, q5_, _, _, _, _, _⟩ := HX.out
  obtain ⟨_, r1_, r2_, r3_, r4_, r5_, _, _, _, _, _⟩ := HYY.out
  obtain ⟨_, s1_, s2_, s3_, s4_, s5_, _, _, _, _, _⟩ := HI1.out
  obtain ⟨_, u1_, u2_, u3_, u4_, u5_, _, _, _, _, _⟩ := HI2.out
  go_wp2_with fail
  refine (HE.out _ HW.out _ _ HO1.out HO2.out).mono ?_
  rintro e w10 ⟨rfl, hb⟩
  have HX := Lib.hid (HX.out.keep hb)
  have HYY := Lib.hid (HYY.out.keep hb)
  have HI1 := Lib.hid (HI1.out.keep hb)
  have HO1 := Lib.hid (HO1.out.keep hb)
  have HO2 := Lib.hid (HO2.out.keep hb)
  have HI2 := Lib.hid (HI2.out.keep hb)
  have HC1 := Lib.hid (HC1.out.keep hb)
  have HC2 := Lib.hid (HC2.out.keep hb)
  have HW := Lib.hid (HW.out.trans (hb.mono HW.out.size))
  clear hb
  clear q1_ q2_ q3_ q4_ q5_ r1_ r2_ r3_ r4_ r5_ s1_ s2_ s3_ s4_ s5_ u1_ u2_ u3_ u4_ u5_
  obtain ⟨_, q1_, q2_, q3_, q4_, q5_, _, _, _, _, _⟩ := HX.out
  obtain ⟨_, r1_, r2_, r3_, r4_, r5_, _, _, _, _, _⟩ := HYY.out
  obtain ⟨_, s1_, s2_, s3_, s4_, s5_, _, _, _, _, _⟩ := HI1.out
  obtain ⟨_, u1_, u2_, u3_, u4_, u5_, _, _, _, _, _⟩ := HI2.out
  have e1 : (convert 22 9 (.slice AX BX.length cX)).run Tryd.prog w10 = .ok (.string (strOfNums BX)) w10 := sl_txt HC1.out
  have e2 : (convert 22 9 (.slice AY BX.length cY)).run Tryd.prog w10 = .ok (.string (strOfNums BX)) w10 := sl_txt HC2.out
  generalize strOfNums BX = SS at e1 e2
  go_wp2_with fail
  refine Stab.region 155 [.is (.bool true), .is (.bool true), .is (.agg #[.int .i64 x.op, .int .i64 x.A, .int .i64 x.B, .int .u64 x.K, .slice P n c]), .is (.bool sn), .is (.agg #[.int .i64 x.op, .int .i64 x.A, .int .i64 x.B, .int .u64 x.K, .slice P n c]), .is (.bool sn), .is (.bool true), .is (.bool true), .is (.bool true), .is (.agg #[.int .i64 x.op, .int .i64 x.A, .int .i64 x.B, .int .u64 x.K, .slice P n c]), .is (.agg #[.int .i64 y.op, .int .i64 y.A, .int .i64 y.B, .int .u64 y.K, .slice Q m d]), .is (.bool sm), .is (.agg #[.int .i64 x.op, .int .i64 x.A, .int .i64 x.B, .int .u64 x.K, .slice P n c]), .is (.agg #[.int .i64 y.op, .int .i64 y.A, .int .i64 y.B, .int .u64 y.K, .slice Q m d]), .is (.bool sm), .is (.bool true), .is (.bool true), .is (.bool true), .is (.int .i64 op), .is (.int .i64 kk), .is (.int .i64 op), .is (.int .i64 kk), .is (.bool true), .is (.bool true), .is (.bool true)] (by kernel_rfl) (by kernel_rfl) rfl rfl ?_ ?_
  · with_reducible refine Stab.steps_cons ?_ ?_ ?_
    · exact Stab.owes_move rfl rfl rfl
    · exact trivial
    with_reducible refine Stab.steps_cons ?_ ?_ ?_
    · exact Stab.owes_move rfl rfl rfl
    · exact trivial
    with_reducible refine Stab.steps_cons ?_ ?_ ?_
    · exact Stab.owes_load rfl (fun v W hb hv => by subst hv; exact (HX.out.keep hb).run) rfl
    · exact trivial
    with_reducible refine Stab.steps_cons ?_ ?_ ?_
    · (refine Stab.owes_call Tryd.func18 (by kernel_rfl) (by kernel_rfl) rfl (fun vs W hb hall => ?_) rfl; obtain ⟨_, _, rfl, rfl, rfl⟩ := hall; refine (HN1.out W (HW.out.trans (hb.mono HW.out.size))).mono ?_; rintro e ww ⟨rfl, hb2⟩; exact ⟨_, rfl, hb2, rfl⟩)
    · exact trivial
    with_reducible refine Stab.steps_cons ?_ ?_ ?_
    · exact Stab.owes_load rfl (fun v W hb hv => by subst hv; exact (HX.out.keep hb).run) rfl
    · exact trivial
    with_reducible refine Stab.steps_cons ?_ ?_ ?_
    · (refine Stab.owes_call Tryd.func19 (by kernel_rfl) (by kernel_rfl) rfl (fun vs W hb hall => ?_) rfl; obtain ⟨_, _, rfl, rfl, rfl⟩ := hall; refine (HN2.out W (HW.out.trans (hb.mono HW.out.size))).mono ?_; rintro e ww ⟨rfl, hb2⟩; exact ⟨_, rfl, hb2, rfl⟩)
    · exact trivial
    with_reducible refine Stab.steps_cons ?_ ?_ ?_
    · exact Stab.owes_bin rfl rfl rfl (fun W => Stab.run_eqB _ _ sn sn true (by cases sn <;> rfl) W) rfl
    · exact trivial
    with_reducible refine Stab.steps_cons ?_ ?_ ?_
    · exact Stab.owes_pick rfl rfl rfl rfl
    · exact trivial
    with_reducible refine Stab.steps_cons ?_ ?_ ?_
    · exact Stab.owes_move rfl rfl rfl
    · exact trivial
    with_reducible refine Stab.steps_cons ?_ ?_ ?_
    · exact Stab.owes_load rfl (fun v W hb hv => by subst hv; exact (HX.out.keep hb).run) rfl
    · exact trivial
    with_reducible refine Stab.steps_cons ?_ ?_ ?_
    · exact Stab.owes_load rfl (fun v W hb hv => by subst hv; exact (HYY.out.keep hb).run) rfl
    · exact trivial
    with_reducible refine Stab.steps_cons ?_ ?_ ?_
    · (refine Stab.owes_call Tryd.func20 (by kernel_rfl) (by kernel_rfl) rfl (fun vs W hb hall => ?_) rfl; obtain ⟨_, _, rfl, rfl, _, _, rfl, rfl, rfl⟩ := hall; refine (HM1.out W (HW.out.trans (hb.mono HW.out.size))).mono ?_; rintro e ww ⟨rfl, hb2⟩; exact ⟨_, rfl, hb2, rfl⟩)
    · exact trivial
    with_reducible refine Stab.steps_cons ?_ ?_ ?_
    · exact Stab.owes_load rfl (fun v W hb hv => by subst hv; exact (HX.out.keep hb).run) rfl
    · exact trivial
    with_reducible refine Stab.steps_cons ?_ ?_ ?_
    · exact Stab.owes_load rfl (fun v W hb hv => by subst hv; exact (HYY.out.keep hb).run) rfl
    · exact trivial
    with_reducible refine Stab.steps_cons ?_ ?_ ?_
    · (refine Stab.owes_call Tryd.func17 (by kernel_rfl) (by kernel_rfl) rfl (fun vs W hb hall => ?_) rfl; obtain ⟨_, _, rfl, rfl, _, _, rfl, rfl, rfl⟩ := hall; refine (HM2.out W (HW.out.trans (hb.mono HW.out.size))).mono ?_; rintro e ww ⟨rfl, hb2⟩; exact ⟨_, rfl, hb2, rfl⟩)
    · exact trivial
    with_reducible refine Stab.steps_cons ?_ ?_ ?_
    · exact Stab.owes_bin rfl rfl rfl (fun W => Stab.run_eqB _ _ sm sm true (by cases sm <;> rfl) W) rfl
    · exact trivial
    with_reducible refine Stab.steps_cons ?_ ?_ ?_
    · exact Stab.owes_pick rfl rfl rfl rfl
    · exact trivial
    with_reducible refine Stab.steps_cons ?_ ?_ ?_
    · exact Stab.owes_move rfl rfl rfl
    · exact trivial
    with_reducible refine Stab.steps_cons ?_ ?_ ?_
    · exact Stab.owes_move rfl rfl rfl
    · exact trivial
    with_reducible refine Stab.steps_cons ?_ ?_ ?_
    · (refine Stab.owes_call Tryd.func21 (by kernel_rfl) (by kernel_rfl) rfl (fun vs W hb hall => ?_) rfl; obtain ⟨_, _, rfl, rfl, rfl⟩ := hall; refine (HK1.out W (HW.out.trans (hb.mono HW.out.size))).mono ?_; rintro e ww ⟨rfl, hb2⟩; exact ⟨_, rfl, hb2, rfl⟩)
    · exact trivial
    with_reducible refine Stab.steps_cons ?_ ?_ ?_
    · exact Stab.owes_move rfl rfl rfl
    · exact trivial
    with_reducible refine Stab.steps_cons ?_ ?_ ?_
    · (refine Stab.owes_call Tryd.func22 (by kernel_rfl) (by kernel_rfl) rfl (fun vs W hb hall => ?_) rfl; obtain ⟨_, _, rfl, rfl, rfl⟩ := hall; refine (HK2.out W (HW.out.trans (hb.mono HW.out.size))).mono ?_; rintro e ww ⟨rfl, hb2⟩; exact ⟨_, rfl, hb2, rfl⟩)
    · exact trivial
    with_reducible refine Stab.steps_cons ?_ ?_ ?_
    · exact Stab.owes_bin rfl rfl rfl (fun W => Stab.run_eqI _ _ kk kk true (by simp) W) rfl
    · exact trivial
    with_reducible refine Stab.steps_cons ?_ ?_ ?_
    · exact Stab.owes_pick rfl rfl rfl rfl
    · exact trivial
    with_reducible refine Stab.steps_cons ?_ ?_ ?_
    · exact Stab.owes_assign rfl rfl rfl
    · exact trivial
    exact Stab.steps_nil
  · intro W hb _
    simp only [Act.put, List.setIfInBounds_toArray, List.set_cons_succ, List.set_cons_zero]
    have HW := Lib.hid (HW.out.trans (hb.mono HW.out.size))
    go_wp2_with fail
    go_ret
    exact ⟨rfl, HW.out⟩
theorem iis_law (x y : Ins) (P Q : Option Addr) (n c m d : Nat) (A : Option Addr) (N cN : Nat) (at_ op : Int) (zb zx zy : List Int) (w : World) (hK : KTab w) (hAt : ATab w) (ex : x.L = zx.take n) (ey : y.L = zy.take m) (hb : Leb.Came .u8 w A N cN zb) (hx : Leb.Came .i64 w P n c zx) (hy : Leb.Came .i64 w Q m d zy) (ux : u64R x.K) :
    Calls Tryd.prog 3 #[.slice A N cN, .int .i64 at_, .agg #[.int .i64 x.op, .int .i64 x.A, .int .i64 x.B, .int .u64 x.K, .slice P n c], .agg #[.int .i64 y.op, .int .i64 y.A, .int .i64 y.B, .int .u64 y.K, .slice Q m d], .int .i64 op] w fun e w' => e = .returned (.bool true) ∧ Below w.heap.size w w' := by
  have sx := came_slI hx
  have sy := came_slI hy
  rw [← ex] at sx
  rw [← ey] at sy
  obtain ⟨sb, bb⟩ := came_sl hb
  obtain ⟨lb_, _⟩ := came_parts hb
  have hA := fun W (hW : Below w.heap.size w W) => awake_any W (hK.keep hW)
  cases h1 : decide ((500 : Int) < (N : Int)) with
  | true => exact iis_big x y P Q n c m d A N cN at_ op w h1 hA
  | false =>
    have hN : N ≤ 500 := by have := of_decide_eq_false h1; omega
    have hS1 := fun W (hW : Below w.heap.size w W) => small_core x.op x.A x.B x.K P n c W _ rfl
    have hS2 := fun W (hW : Below w.heap.size w W) => small_core y.op y.A y.B y.K Q m d W _ rfl
    cases h2 : decide ((n : Int) ≤ 100) with
    | false => rw [h2] at hS1; exact iis_far1 x y P Q n c m d A N cN at_ op w h1 hA hS1
    | true =>
      cases h3 : decide ((m : Int) ≤ 100) with
      | false => rw [h2] at hS1; rw [h3] at hS2; exact iis_far2 x y P Q n c m d A N cN at_ op w h1 hA hS1 hS2
      | true =>
        rw [h2] at hS1
        rw [h3] at hS2
        revert sb bb lb_
        generalize zb.take N = b
        intro sb bb lb_
        have hP1 : ∀ W, Below w.heap.size w W → _ := fun W hW => pput_any (x := x) (sb.keep hW) (by omega) (sx.keep hW) ux (hK.keep hW)
        have hP2 : ∀ W, Below w.heap.size w W → _ := fun W hW => dput_any (x := x) (sb.keep hW) (by omega) (sx.keep hW) ux
        unfold PutIs at hP1 hP2
        refine iis_ok x y P Q n c m d A N cN at_ op w (rdo b at_).1 (rdo b at_).2.1 (rdo b at_).2.2 _ _ _ _ _ _ _ _ _ h1 hA hS1 hS2 (fun W hW => pread_any at_ (sb.keep hW) bb (by omega) (hK.keep hW)) (fun W hW => rread_any at_ (sb.keep hW) bb (by omega)) hP1 hP2 (fun W hW => access_any op W (hAt.keep hW)) (fun W hW => (raccess_any op W).mono fun e w' ⟨k1, k2⟩ => ⟨k1, k2 ▸ Below.refl _ _⟩) ?_
          (fun W hW => psane_any (sx.keep hW) ux (hK.keep hW)) (fun W hW => rsane_any (sx.keep hW)) (fun W hW => psame_any (sx.keep hW) (sy.keep hW)) (fun W hW => rsame_any (sx.keep hW) (sy.keep hW)) (fun W hW => kind_told op W (hK.keep hW)) (fun W hW => rkind_any op W)
        intro W hW o p ho hp
        have := rsame_any (x := (rdo b at_).1) (y := (rdo b at_).1) ho hp
        rw [show smI (rdo b at_).1 (rdo b at_).1 = true from by unfold smI; simp] at this
        exact this
end Go.Proofs.YtmjimijolfjhmaaDoor.Ins
