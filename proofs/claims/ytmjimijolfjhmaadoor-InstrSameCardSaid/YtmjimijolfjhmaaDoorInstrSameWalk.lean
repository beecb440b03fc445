/- InstrSame walked: an instruction is itself; as bytes two are the same just then. -/
import Derived.Test.YtmjimijolfjhmaaDoorInsPAwake
import Derived.Test.YtmjimijolfjhmaaDoorInsTold
import Derived.Test.YtmjimijolfjhmaaDoorInsStab
import Derived.Lib.Bytes
namespace Go.Proofs.YtmjimijolfjhmaaDoor.Ins
open Go.RowKit Ints Typ
set_option maxRecDepth 100000
set_option maxHeartbeats 2000000
set_option linter.unusedVariables false

theorem isame_far1 (x y : Ins) (P Q : Option Addr) (n c m d : Nat) (w : World) 
    (hA : ∀ W, Below w.heap.size w W → Calls Tryd.prog 9 #[] W fun e w' => e = .returned (.bool true) ∧ Below W.heap.size W w')
    (hS1 : ∀ W, Below w.heap.size w W → Calls Tryd.prog 10 #[.agg #[.int .i64 x.op, .int .i64 x.A, .int .i64 x.B, .int .u64 x.K, .slice P n c]] W fun e w' => e = .returned (.bool false) ∧ Below W.heap.size W w')
    : Calls Tryd.prog 8 #[.agg #[.int .i64 x.op, .int .i64 x.A, .int .i64 x.B, .int .u64 x.K, .slice P n c], .agg #[.int .i64 y.op, .int .i64 y.A, .int .i64 y.B, .int .u64 y.K, .slice Q m d]] w fun e w' => e = .returned (.bool true) ∧ Below w.heap.size w w' := by
  have HA := Lib.hid hA
  have HS1 := Lib.hid hS1
  clear hA hS1
  have HW := Lib.hid (((Below.refl w.heap.size w).alloc (Nat.le_refl _) (.cells #[.int .i64 x.op, .int .i64 x.A, .int .i64 x.B, .int .u64 x.K, .slice P n c] 26)).alloc (by simp) (.cells #[.int .i64 y.op, .int .i64 y.A, .int .i64 y.B, .int .u64 y.K, .slice Q m d] 26))
  have HX := Lib.hid ((InAt.at_ w w.heap.size x.op x.A x.B x.K (.slice P n c) 26 rfl).keep ((Below.refl _ _).alloc (Nat.le_refl _) (.cells #[.int .i64 y.op, .int .i64 y.A, .int .i64 y.B, .int .u64 y.K, .slice Q m d] 26)))
  have HYY := Lib.hid (InAt.at_ (w.alloc (.cells #[.int .i64 x.op, .int .i64 x.A, .int .i64 x.B, .int .u64 x.K, .slice P n c] 26)) (w.heap.size + 1) y.op y.A y.B y.K (.slice Q m d) 26 (by simp))
  obtain ⟨_, q1, q2, q3, q4, q5, _, _, _, _, _⟩ := HX.out
  obtain ⟨_, r1, r2, r3, r4, r5, _, _, _, _, _⟩ := HYY.out
  go_enter Tryd.func8, Tryd.ntmps8
  go_wp2_with fail
  refine (HA.out _ HW.out).mono ?_
  rintro e w1 ⟨rfl, hb⟩
  have HX := Lib.hid (HX.out.keep hb)
  have HYY := Lib.hid (HYY.out.keep hb)
  have HW := Lib.hid (HW.out.trans (hb.mono HW.out.size))
  clear hb
  clear q1 q2 q3 q4 q5 r1 r2 r3 r4 r5
  obtain ⟨_, q1, q2, q3, q4, q5, _, _, _, _, _⟩ := HX.out
  obtain ⟨_, r1, r2, r3, r4, r5, _, _, _, _, _⟩ := HYY.out
  go_wp2_with fail
  refine (HS1.out _ HW.out).mono ?_
  rintro e w2 ⟨rfl, hb⟩
  have HX := Lib.hid (HX.out.keep hb)
  have HYY := Lib.hid (HYY.out.keep hb)
  have HW := Lib.hid (HW.out.trans (hb.mono HW.out.size))
  clear hb
  clear q1 q2 q3 q4 q5 r1 r2 r3 r4 r5
  obtain ⟨_, q1, q2, q3, q4, q5, _, _, _, _, _⟩ := HX.out
  obtain ⟨_, r1, r2, r3, r4, r5, _, _, _, _, _⟩ := HYY.out
  go_wp2_with fail
  go_ret
  exact ⟨rfl, HW.out⟩
theorem isame_far2 (x y : Ins) (P Q : Option Addr) (n c m d : Nat) (w : World) 
    (hA : ∀ W, Below w.heap.size w W → Calls Tryd.prog 9 #[] W fun e w' => e = .returned (.bool true) ∧ Below W.heap.size W w')
    (hS1 : ∀ W, Below w.heap.size w W → Calls Tryd.prog 10 #[.agg #[.int .i64 x.op, .int .i64 x.A, .int .i64 x.B, .int .u64 x.K, .slice P n c]] W fun e w' => e = .returned (.bool true) ∧ Below W.heap.size W w')
    (hS2 : ∀ W, Below w.heap.size w W → Calls Tryd.prog 10 #[.agg #[.int .i64 y.op, .int .i64 y.A, .int .i64 y.B, .int .u64 y.K, .slice Q m d]] W fun e w' => e = .returned (.bool false) ∧ Below W.heap.size W w')
    : Calls Tryd.prog 8 #[.agg #[.int .i64 x.op, .int .i64 x.A, .int .i64 x.B, .int .u64 x.K, .slice P n c], .agg #[.int .i64 y.op, .int .i64 y.A, .int .i64 y.B, .int .u64 y.K, .slice Q m d]] w fun e w' => e = .returned (.bool true) ∧ Below w.heap.size w w' := by
  have HA := Lib.hid hA
  have HS1 := Lib.hid hS1
  have HS2 := Lib.hid hS2
  clear hA hS1 hS2
  have HW := Lib.hid (((Below.refl w.heap.size w).alloc (Nat.le_refl _) (.cells #[.int .i64 x.op, .int .i64 x.A, .int .i64 x.B, .int .u64 x.K, .slice P n c] 26)).alloc (by simp) (.cells #[.int .i64 y.op, .int .i64 y.A, .int .i64 y.B, .int .u64 y.K, .slice Q m d] 26))
  have HX := Lib.hid ((InAt.at_ w w.heap.size x.op x.A x.B x.K (.slice P n c) 26 rfl).keep ((Below.refl _ _).alloc (Nat.le_refl _) (.cells #[.int .i64 y.op, .int .i64 y.A, .int .i64 y.B, .int .u64 y.K, .slice Q m d] 26)))
  have HYY := Lib.hid (InAt.at_ (w.alloc (.cells #[.int .i64 x.op, .int .i64 x.A, .int .i64 x.B, .int .u64 x.K, .slice P n c] 26)) (w.heap.size + 1) y.op y.A y.B y.K (.slice Q m d) 26 (by simp))
  obtain ⟨_, q1, q2, q3, q4, q5, _, _, _, _, _⟩ := HX.out
  obtain ⟨_, r1, r2, r3, r4, r5, _, _, _, _, _⟩ := HYY.out
  go_enter Tryd.func8, Tryd.ntmps8
  go_wp2_with fail
  refine (HA.out _ HW.out).mono ?_
  rintro e w1 ⟨rfl, hb⟩
  have HX := Lib.hid (HX.out.keep hb)
  have HYY := Lib.hid (HYY.out.keep hb)
  have HW := Lib.hid (HW.out.trans (hb.mono HW.out.size))
  clear hb
  clear q1 q2 q3 q4 q5 r1 r2 r3 r4 r5
  obtain ⟨_, q1, q2, q3, q4, q5, _, _, _, _, _⟩ := HX.out
  obtain ⟨_, r1, r2, r3, r4, r5, _, _, _, _, _⟩ := HYY.out
  go_wp2_with fail
  refine (HS1.out _ HW.out).mono ?_
  rintro e w2 ⟨rfl, hb⟩
  have HX := Lib.hid (HX.out.keep hb)
  have HYY := Lib.hid (HYY.out.keep hb)
  have HW := Lib.hid (HW.out.trans (hb.mono HW.out.size))
  clear hb
  clear q1 q2 q3 q4 q5 r1 r2 r3 r4 r5
  obtain ⟨_, q1, q2, q3, q4, q5, _, _, _, _, _⟩ := HX.out
  obtain ⟨_, r1, r2, r3, r4, r5, _, _, _, _, _⟩ := HYY.out
  go_wp2_with fail
  refine (HS2.out _ HW.out).mono ?_
  rintro e w3 ⟨rfl, hb⟩
  have HX := Lib.hid (HX.out.keep hb)
  have HYY := Lib.hid (HYY.out.keep hb)
  have HW := Lib.hid (HW.out.trans (hb.mono HW.out.size))
  clear hb
  clear q1 q2 q3 q4 q5 r1 r2 r3 r4 r5
  obtain ⟨_, q1, q2, q3, q4, q5, _, _, _, _, _⟩ := HX.out
  obtain ⟨_, r1, r2, r3, r4, r5, _, _, _, _, _⟩ := HYY.out
  go_wp2_with fail
  go_ret
  exact ⟨rfl, HW.out⟩
theorem isame_10 (x y : Ins) (P Q : Option Addr) (n c m d : Nat) (w : World) (R : Bool) (BX BY : List Int)
    (hA : ∀ W, Below w.heap.size w W → Calls Tryd.prog 9 #[] W fun e w' => e = .returned (.bool true) ∧ Below W.heap.size W w')
    (hS1 : ∀ W, Below w.heap.size w W → Calls Tryd.prog 10 #[.agg #[.int .i64 x.op, .int .i64 x.A, .int .i64 x.B, .int .u64 x.K, .slice P n c]] W fun e w' => e = .returned (.bool true) ∧ Below W.heap.size W w')
    (hS2 : ∀ W, Below w.heap.size w W → Calls Tryd.prog 10 #[.agg #[.int .i64 y.op, .int .i64 y.A, .int .i64 y.B, .int .u64 y.K, .slice Q m d]] W fun e w' => e = .returned (.bool true) ∧ Below W.heap.size W w')
    (hP1 : ∀ W, Below w.heap.size w W → Calls Tryd.prog 13 #[.slice none 0 0, .agg #[.int .i64 x.op, .int .i64 x.A, .int .i64 x.B, .int .u64 x.K, .slice P n c]] W (PutTold BX 1 W))
    (hP2 : ∀ W, Below w.heap.size w W → Calls Tryd.prog 13 #[.slice none 0 0, .agg #[.int .i64 y.op, .int .i64 y.A, .int .i64 y.B, .int .u64 y.K, .slice Q m d]] W (PutTold BY 0 W))
    (hXX : ∀ W, Below w.heap.size w W → Calls Tryd.prog 20 #[.agg #[.int .i64 x.op, .int .i64 x.A, .int .i64 x.B, .int .u64 x.K, .slice P n c], .agg #[.int .i64 x.op, .int .i64 x.A, .int .i64 x.B, .int .u64 x.K, .slice P n c]] W fun e w' => e = .returned (.bool true) ∧ Below W.heap.size W w')
    (hXY : ∀ W, Below w.heap.size w W → Calls Tryd.prog 20 #[.agg #[.int .i64 x.op, .int .i64 x.A, .int .i64 x.B, .int .u64 x.K, .slice P n c], .agg #[.int .i64 y.op, .int .i64 y.A, .int .i64 y.B, .int .u64 y.K, .slice Q m d]] W fun e w' => e = .returned (.bool R) ∧ Below W.heap.size W w')
    (hYX : ∀ W, Below w.heap.size w W → Calls Tryd.prog 20 #[.agg #[.int .i64 y.op, .int .i64 y.A, .int .i64 y.B, .int .u64 y.K, .slice Q m d], .agg #[.int .i64 x.op, .int .i64 x.A, .int .i64 x.B, .int .u64 x.K, .slice P n c]] W fun e w' => e = .returned (.bool R) ∧ Below W.heap.size W w')
    : Calls Tryd.prog 8 #[.agg #[.int .i64 x.op, .int .i64 x.A, .int .i64 x.B, .int .u64 x.K, .slice P n c], .agg #[.int .i64 y.op, .int .i64 y.A, .int .i64 y.B, .int .u64 y.K, .slice Q m d]] w fun e w' => e = .returned (.bool true) ∧ Below w.heap.size w w' := by
  have HA := Lib.hid hA
  have HS1 := Lib.hid hS1
  have HS2 := Lib.hid hS2
  have HP1 := Lib.hid hP1
  have HP2 := Lib.hid hP2
  have HXX := Lib.hid hXX
  have HXY := Lib.hid hXY
  have HYX := Lib.hid hYX
  clear hA hS1 hS2 hP1 hP2 hXX hXY hYX
  have HW := Lib.hid (((Below.refl w.heap.size w).alloc (Nat.le_refl _) (.cells #[.int .i64 x.op, .int .i64 x.A, .int .i64 x.B, .int .u64 x.K, .slice P n c] 26)).alloc (by simp) (.cells #[.int .i64 y.op, .int .i64 y.A, .int .i64 y.B, .int .u64 y.K, .slice Q m d] 26))
  have HX := Lib.hid ((InAt.at_ w w.heap.size x.op x.A x.B x.K (.slice P n c) 26 rfl).keep ((Below.refl _ _).alloc (Nat.le_refl _) (.cells #[.int .i64 y.op, .int .i64 y.A, .int .i64 y.B, .int .u64 y.K, .slice Q m d] 26)))
  have HYY := Lib.hid (InAt.at_ (w.alloc (.cells #[.int .i64 x.op, .int .i64 x.A, .int .i64 x.B, .int .u64 x.K, .slice P n c] 26)) (w.heap.size + 1) y.op y.A y.B y.K (.slice Q m d) 26 (by simp))
  obtain ⟨_, q1, q2, q3, q4, q5, _, _, _, _, _⟩ := HX.out
  obtain ⟨_, r1, r2, r3, r4, r5, _, _, _, _, _⟩ := HYY.out
  go_enter Tryd.func8, Tryd.ntmps8
  go_wp2_with fail
  refine (HA.out _ HW.out).mono ?_
  rintro e w1 ⟨rfl, hb⟩
  have HX := Lib.hid (HX.out.keep hb)
  have HYY := Lib.hid (HYY.out.keep hb)
  have HW := Lib.hid (HW.out.trans (hb.mono HW.out.size))
  clear hb
  clear q1 q2 q3 q4 q5 r1 r2 r3 r4 r5
  obtain ⟨_, q1, q2, q3, q4, q5, _, _, _, _, _⟩ := HX.out
  obtain ⟨_, r1, r2, r3, r4, r5, _, _, _, _, _⟩ := HYY.out
  go_wp2_with fail
  refine (HS1.out _ HW.out).mono ?_
  rintro e w2 ⟨rfl, hb⟩
  have HX := Lib.hid (HX.out.keep hb)
  have HYY := Lib.hid (HYY.out.keep hb)
  have HW := Lib.hid (HW.out.trans (hb.mono HW.out.size))
  clear hb
  clear q1 q2 q3 q4 q5 r1 r2 r3 r4 r5
  obtain ⟨_, q1, q2, q3, q4, q5, _, _, _, _, _⟩ := HX.out
  obtain ⟨_, r1, r2, r3, r4, r5, _, _, _, _, _⟩ := HYY.out
  go_wp2_with fail
  refine (HS2.out _ HW.out).mono ?_
  rintro e w3 ⟨rfl, hb⟩
  have HX := Lib.hid (HX.out.keep hb)
  have HYY := Lib.hid (HYY.out.keep hb)
  have HW := Lib.hid (HW.out.trans (hb.mono HW.out.size))
  clear hb
  clear q1 q2 q3 q4 q5 r1 r2 r3 r4 r5
  obtain ⟨_, q1, q2, q3, q4, q5, _, _, _, _, _⟩ := HX.out
  obtain ⟨_, r1, r2, r3, r4, r5, _, _, _, _, _⟩ := HYY.out
  go_wp2_with fail
  refine (HP1.out _ HW.out).mono ?_
  rintro e w4 ⟨vx, rfl, hs, hb⟩
  have HX := Lib.hid (HX.out.keep hb)
  have HYY := Lib.hid (HYY.out.keep hb)
  have HW := Lib.hid (HW.out.trans (hb.mono HW.out.size))
  have HSX := Lib.hid hs
  obtain ⟨AX, cX, rfl, _⟩ := id hs
  clear hs
  clear hb
  clear q1 q2 q3 q4 q5 r1 r2 r3 r4 r5
  obtain ⟨_, q1, q2, q3, q4, q5, _, _, _, _, _⟩ := HX.out
  obtain ⟨_, r1, r2, r3, r4, r5, _, _, _, _, _⟩ := HYY.out
  go_wp2_with fail
  refine (HP2.out _ HW.out).mono ?_
  rintro e w5 ⟨vy, rfl, hs, hb⟩
  have HX := Lib.hid (HX.out.keep hb)
  have HYY := Lib.hid (HYY.out.keep hb)
  have HSX := Lib.hid (HSX.out.keep hb)
  have HW := Lib.hid (HW.out.trans (hb.mono HW.out.size))
  have HSY := Lib.hid hs
  obtain ⟨AY, cY, rfl, _⟩ := id hs
  clear hs
  clear hb
  clear q1 q2 q3 q4 q5 r1 r2 r3 r4 r5
  obtain ⟨_, q1, q2, q3, q4, q5, _, _, _, _, _⟩ := HX.out
  obtain ⟨_, r1, r2, r3, r4, r5, _, _, _, _, _⟩ := HYY.out
  go_wp2_with fail
  refine Stab.region 63 [.is (.agg #[.int .i64 x.op, .int .i64 x.A, .int .i64 x.B, .int .u64 x.K, .slice P n c]), .is (.agg #[.int .i64 x.op, .int .i64 x.A, .int .i64 x.B, .int .u64 x.K, .slice P n c]), .is (.bool true), .is (.bool (!true)), .is (.bool (!true)), .is (.agg #[.int .i64 x.op, .int .i64 x.A, .int .i64 x.B, .int .u64 x.K, .slice P n c]), .is (.agg #[.int .i64 y.op, .int .i64 y.A, .int .i64 y.B, .int .u64 y.K, .slice Q m d]), .is (.bool R), .is (.agg #[.int .i64 y.op, .int .i64 y.A, .int .i64 y.B, .int .u64 y.K, .slice Q m d]), .is (.agg #[.int .i64 x.op, .int .i64 x.A, .int .i64 x.B, .int .u64 x.K, .slice P n c]), .is (.bool R), .is (.bool false), .is (.bool false)] (by kernel_rfl) (by kernel_rfl) rfl rfl ?_ ?_
  · with_reducible refine Stab.steps_cons ?_ ?_ ?_
    · exact Stab.owes_load rfl (fun v W hb hv => by subst hv; exact (HX.out.keep hb).run) rfl
    · exact trivial
    with_reducible refine Stab.steps_cons ?_ ?_ ?_
    · exact Stab.owes_load rfl (fun v W hb hv => by subst hv; exact (HX.out.keep hb).run) rfl
    · exact trivial
    with_reducible refine Stab.steps_cons ?_ ?_ ?_
    · (refine Stab.owes_call Tryd.func20 (by kernel_rfl) (by kernel_rfl) rfl (fun vs W hb hall => ?_) rfl; obtain ⟨_, _, rfl, rfl, _, _, rfl, rfl, rfl⟩ := hall; refine (HXX.out W (HW.out.trans (hb.mono HW.out.size))).mono ?_; rintro e w2 ⟨rfl, hb2⟩; exact ⟨_, rfl, hb2, rfl⟩)
    · exact trivial
    with_reducible refine Stab.steps_cons ?_ ?_ ?_
    · exact Stab.owes_not rfl rfl (fun W => Stab.run_not _ W) rfl
    · exact trivial
    with_reducible refine Stab.steps_cons ?_ ?_ ?_
    · exact Stab.owes_move rfl rfl rfl
    · exact trivial
    with_reducible refine Stab.steps_cons ?_ ?_ ?_
    · exact Stab.owes_load rfl (fun v W hb hv => by subst hv; exact (HX.out.keep hb).run) rfl
    · exact trivial
    with_reducible refine Stab.steps_cons ?_ ?_ ?_
    · exact Stab.owes_load rfl (fun v W hb hv => by subst hv; exact (HYY.out.keep hb).run) rfl
    · exact trivial
    with_reducible refine Stab.steps_cons ?_ ?_ ?_
    · (refine Stab.owes_call Tryd.func20 (by kernel_rfl) (by kernel_rfl) rfl (fun vs W hb hall => ?_) rfl; obtain ⟨_, _, rfl, rfl, _, _, rfl, rfl, rfl⟩ := hall; refine (HXY.out W (HW.out.trans (hb.mono HW.out.size))).mono ?_; rintro e w2 ⟨rfl, hb2⟩; exact ⟨_, rfl, hb2, rfl⟩)
    · exact trivial
    with_reducible refine Stab.steps_cons ?_ ?_ ?_
    · exact Stab.owes_load rfl (fun v W hb hv => by subst hv; exact (HYY.out.keep hb).run) rfl
    · exact trivial
    with_reducible refine Stab.steps_cons ?_ ?_ ?_
    · exact Stab.owes_load rfl (fun v W hb hv => by subst hv; exact (HX.out.keep hb).run) rfl
    · exact trivial
    with_reducible refine Stab.steps_cons ?_ ?_ ?_
    · (refine Stab.owes_call Tryd.func20 (by kernel_rfl) (by kernel_rfl) rfl (fun vs W hb hall => ?_) rfl; obtain ⟨_, _, rfl, rfl, _, _, rfl, rfl, rfl⟩ := hall; refine (HYX.out W (HW.out.trans (hb.mono HW.out.size))).mono ?_; rintro e w2 ⟨rfl, hb2⟩; exact ⟨_, rfl, hb2, rfl⟩)
    · exact trivial
    with_reducible refine Stab.steps_cons ?_ ?_ ?_
    · exact Stab.owes_bin rfl rfl rfl (fun W => Stab.run_neB _ _ R R false (by cases R <;> rfl) W) rfl
    · exact trivial
    with_reducible refine Stab.steps_cons ?_ ?_ ?_
    · exact Stab.owes_pick rfl rfl rfl rfl
    · exact trivial
    exact Stab.steps_nil
  · intro W hb _
    simp only [Act.put, List.setIfInBounds_toArray, List.set_cons_succ, List.set_cons_zero]
    have HX := Lib.hid (HX.out.keep hb)
    have HYY := Lib.hid (HYY.out.keep hb)
    have HSX := Lib.hid (HSX.out.keep hb)
    have HSY := Lib.hid (HSY.out.keep hb)
    have HW := Lib.hid (HW.out.trans (hb.mono HW.out.size))
    clear hb q1 q2 q3 q4 q5 r1 r2 r3 r4 r5
    go_wp2_with fail
    refine Stab.region 63 [.is (.bool true), .is (.bool true), .is (.int .i64 1), .is (.bool true), .is (.bool true), .is undef, .is undef, .is (.bool true), .is (.bool true), .is undef, .is undef, .is undef, .is undef, .is undef, .is undef, .is undef, .is undef, .is undef, .is (.bool true), .is (.bool true), .is (.bool true)] (by kernel_rfl) (by kernel_rfl) rfl rfl ?_ ?_
    · with_reducible refine Stab.steps_cons ?_ ?_ ?_
      · exact Stab.owes_move rfl rfl rfl
      · exact trivial
      with_reducible refine Stab.steps_cons ?_ ?_ ?_
      · exact Stab.owes_move rfl rfl rfl
      · exact trivial
      with_reducible refine Stab.steps_cons ?_ ?_ ?_
      · exact Stab.owes_move rfl rfl rfl
      · exact trivial
      with_reducible refine Stab.steps_cons ?_ ?_ ?_
      · exact Stab.owes_bin rfl rfl rfl (fun W => Stab.run_neE _ _ 1 0 true rfl W) rfl
      · exact trivial
      with_reducible refine Stab.steps_cons ?_ ?_ ?_
      · exact Stab.owes_move rfl rfl rfl
      · exact trivial
      with_reducible refine Stab.steps_cons ?_ ?_ ?_
      · exact Stab.owes_off rfl
      · exact trivial
      with_reducible refine Stab.steps_cons ?_ ?_ ?_
      · exact Stab.owes_off rfl
      · exact trivial
      with_reducible refine Stab.steps_cons ?_ ?_ ?_
      · exact Stab.owes_pick rfl rfl rfl rfl
      · exact trivial
      with_reducible refine Stab.steps_cons ?_ ?_ ?_
      · exact Stab.owes_move rfl rfl rfl
      · exact trivial
      with_reducible refine Stab.steps_cons ?_ ?_ ?_
      · exact Stab.owes_off rfl
      · exact trivial
      with_reducible refine Stab.steps_cons ?_ ?_ ?_
      · exact Stab.owes_off rfl
      · exact trivial
      with_reducible refine Stab.steps_cons ?_ ?_ ?_
      · exact Stab.owes_off rfl
      · exact trivial
      with_reducible refine Stab.steps_cons ?_ ?_ ?_
      · exact Stab.owes_off rfl
      · exact trivial
      with_reducible refine Stab.steps_cons ?_ ?_ ?_
      · exact Stab.owes_off rfl
      · exact trivial
      with_reducible refine Stab.steps_cons ?_ ?_ ?_
      · exact Stab.owes_off rfl
      · exact trivial
      with_reducible refine Stab.steps_cons ?_ ?_ ?_
      · exact Stab.owes_off rfl
      · exact trivial
      with_reducible refine Stab.steps_cons ?_ ?_ ?_
      · exact Stab.owes_off rfl
      · exact trivial
      with_reducible refine Stab.steps_cons ?_ ?_ ?_
      · exact Stab.owes_off rfl
      · exact trivial
      with_reducible refine Stab.steps_cons ?_ ?_ ?_
      · exact Stab.owes_pick rfl rfl rfl rfl
      · exact trivial
      with_reducible refine Stab.steps_cons ?_ ?_ ?_
      · exact Stab.owes_pick rfl rfl rfl rfl
      · exact trivial
      with_reducible refine Stab.steps_cons ?_ ?_ ?_
      · exact Stab.owes_assign rfl rfl rfl
      · exact trivial
      exact Stab.steps_nil
    · intro W hb _
      simp only [Act.put, List.setIfInBounds_toArray, List.set_cons_succ, List.set_cons_zero]
      have HW := Lib.hid (HW.out.trans (hb.mono HW.out.size))
      go_wp2_with fail
      go_ret
      exact ⟨rfl, HW.out⟩
theorem isame_11 (x y : Ins) (P Q : Option Addr) (n c m d : Nat) (w : World) (R : Bool) (BX BY : List Int)
    (hA : ∀ W, Below w.heap.size w W → Calls Tryd.prog 9 #[] W fun e w' => e = .returned (.bool true) ∧ Below W.heap.size W w')
    (hS1 : ∀ W, Below w.heap.size w W → Calls Tryd.prog 10 #[.agg #[.int .i64 x.op, .int .i64 x.A, .int .i64 x.B, .int .u64 x.K, .slice P n c]] W fun e w' => e = .returned (.bool true) ∧ Below W.heap.size W w')
    (hS2 : ∀ W, Below w.heap.size w W → Calls Tryd.prog 10 #[.agg #[.int .i64 y.op, .int .i64 y.A, .int .i64 y.B, .int .u64 y.K, .slice Q m d]] W fun e w' => e = .returned (.bool true) ∧ Below W.heap.size W w')
    (hP1 : ∀ W, Below w.heap.size w W → Calls Tryd.prog 13 #[.slice none 0 0, .agg #[.int .i64 x.op, .int .i64 x.A, .int .i64 x.B, .int .u64 x.K, .slice P n c]] W (PutTold BX 1 W))
    (hP2 : ∀ W, Below w.heap.size w W → Calls Tryd.prog 13 #[.slice none 0 0, .agg #[.int .i64 y.op, .int .i64 y.A, .int .i64 y.B, .int .u64 y.K, .slice Q m d]] W (PutTold BY 1 W))
    (hXX : ∀ W, Below w.heap.size w W → Calls Tryd.prog 20 #[.agg #[.int .i64 x.op, .int .i64 x.A, .int .i64 x.B, .int .u64 x.K, .slice P n c], .agg #[.int .i64 x.op, .int .i64 x.A, .int .i64 x.B, .int .u64 x.K, .slice P n c]] W fun e w' => e = .returned (.bool true) ∧ Below W.heap.size W w')
    (hXY : ∀ W, Below w.heap.size w W → Calls Tryd.prog 20 #[.agg #[.int .i64 x.op, .int .i64 x.A, .int .i64 x.B, .int .u64 x.K, .slice P n c], .agg #[.int .i64 y.op, .int .i64 y.A, .int .i64 y.B, .int .u64 y.K, .slice Q m d]] W fun e w' => e = .returned (.bool R) ∧ Below W.heap.size W w')
    (hYX : ∀ W, Below w.heap.size w W → Calls Tryd.prog 20 #[.agg #[.int .i64 y.op, .int .i64 y.A, .int .i64 y.B, .int .u64 y.K, .slice Q m d], .agg #[.int .i64 x.op, .int .i64 x.A, .int .i64 x.B, .int .u64 x.K, .slice P n c]] W fun e w' => e = .returned (.bool R) ∧ Below W.heap.size W w')
    : Calls Tryd.prog 8 #[.agg #[.int .i64 x.op, .int .i64 x.A, .int .i64 x.B, .int .u64 x.K, .slice P n c], .agg #[.int .i64 y.op, .int .i64 y.A, .int .i64 y.B, .int .u64 y.K, .slice Q m d]] w fun e w' => e = .returned (.bool true) ∧ Below w.heap.size w w' := by
  have HA := Lib.hid hA
  have HS1 := Lib.hid hS1
  have HS2 := Lib.hid hS2
  have HP1 := Lib.hid hP1
  have HP2 := Lib.hid hP2
  have HXX := Lib.hid hXX
  have HXY := Lib.hid hXY
  have HYX := Lib.hid hYX
  clear hA hS1 hS2 hP1 hP2 hXX hXY hYX
  have HW := Lib.hid (((Below.refl w.heap.size w).alloc (Nat.le_refl _) (.cells #[.int .i64 x.op, .int .i64 x.A, .int .i64 x.B, .int .u64 x.K, .slice P n c] 26)).alloc (by simp) (.cells #[.int .i64 y.op, .int .i64 y.A, .int .i64 y.B, .int .u64 y.K, .slice Q m d] 26))
  have HX := Lib.hid ((InAt.at_ w w.heap.size x.op x.A x.B x.K (.slice P n c) 26 rfl).keep ((Below.refl _ _).alloc (Nat.le_refl _) (.cells #[.int .i64 y.op, .int .i64 y.A, .int .i64 y.B, .int .u64 y.K, .slice Q m d] 26)))
  have HYY := Lib.hid (InAt.at_ (w.alloc (.cells #[.int .i64 x.op, .int .i64 x.A, .int .i64 x.B, .int .u64 x.K, .slice P n c] 26)) (w.heap.size + 1) y.op y.A y.B y.K (.slice Q m d) 26 (by simp))
  obtain ⟨_, q1, q2, q3, q4, q5, _, _, _, _, _⟩ := HX.out
  obtain ⟨_, r1, r2, r3, r4, r5, _, _, _, _, _⟩ := HYY.out
  go_enter Tryd.func8, Tryd.ntmps8
  go_wp2_with fail
  refine (HA.out _ HW.out).mono ?_
  rintro e w1 ⟨rfl, hb⟩
  have HX := Lib.hid (HX.out.keep hb)
  have HYY := Lib.hid (HYY.out.keep hb)
  have HW := Lib.hid (HW.out.trans (hb.mono HW.out.size))
  clear hb
  clear q1 q2 q3 q4 q5 r1 r2 r3 r4 r5
  obtain ⟨_, q1, q2, q3, q4, q5, _, _, _, _, _⟩ := HX.out
  obtain ⟨_, r1, r2, r3, r4, r5, _, _, _, _, _⟩ := HYY.out
  go_wp2_with fail
  refine (HS1.out _ HW.out).mono ?_
  rintro e w2 ⟨rfl, hb⟩
  have HX := Lib.hid (HX.out.keep hb)
  have HYY := Lib.hid (HYY.out.keep hb)
  have HW := Lib.hid (HW.out.trans (hb.mono HW.out.size))
  clear hb
  clear q1 q2 q3 q4 q5 r1 r2 r3 r4 r5
  obtain ⟨_, q1, q2, q3, q4, q5, _, _, _, _, _⟩ := HX.out
  obtain ⟨_, r1, r2, r3, r4, r5, _, _, _, _, _⟩ := HYY.out
  go_wp2_with fail
  refine (HS2.out _ HW.out).mono ?_
  rintro e w3 ⟨rfl, hb⟩
  have HX := Lib.hid (HX.out.keep hb)
  have HYY := Lib.hid (HYY.out.keep hb)
  have HW := Lib.hid (HW.out.trans (hb.mono HW.out.size))
  clear hb
  clear q1 q2 q3 q4 q5 r1 r2 r3 r4 r5
  obtain ⟨_, q1, q2, q3, q4, q5, _, _, _, _, _⟩ := HX.out
  obtain ⟨_, r1, r2, r3, r4, r5, _, _, _, _, _⟩ := HYY.out
  go_wp2_with fail
  refine (HP1.out _ HW.out).mono ?_
  rintro e w4 ⟨vx, rfl, hs, hb⟩
  have HX := Lib.hid (HX.out.keep hb)
  have HYY := Lib.hid (HYY.out.keep hb)
  have HW := Lib.hid (HW.out.trans (hb.mono HW.out.size))
  have HSX := Lib.hid hs
  obtain ⟨AX, cX, rfl, _⟩ := id hs
  clear hs
  clear hb
  clear q1 q2 q3 q4 q5 r1 r2 r3 r4 r5
  obtain ⟨_, q1, q2, q3, q4, q5, _, _, _, _, _⟩ := HX.out
  obtain ⟨_, r1, r2, r3, r4, r5, _, _, _, _, _⟩ := HYY.out
  go_wp2_with fail
  refine (HP2.out _ HW.out).mono ?_
  rintro e w5 ⟨vy, rfl, hs, hb⟩
  have HX := Lib.hid (HX.out.keep hb)
  have HYY := Lib.hid (HYY.out.keep hb)
  have HSX := Lib.hid (HSX.out.keep hb)
  have HW := Lib.hid (HW.out.trans (hb.mono HW.out.size))
  have HSY := Lib.hid hs
  obtain ⟨AY, cY, rfl, _⟩ := id hs
  clear hs
  clear hb
  clear q1 q2 q3 q4 q5 r1 r2 r3 r4 r5
  obtain ⟨_, q1, q2, q3, q4, q5, _, _, _, _, _⟩ := HX.out
  obtain ⟨_, r1, r2, r3, r4, r5, _, _, _, _, _⟩ := HYY.out
  go_wp2_with fail
  refine Stab.region 63 [.is (.agg #[.int .i64 x.op, .int .i64 x.A, .int .i64 x.B, .int .u64 x.K, .slice P n c]), .is (.agg #[.int .i64 x.op, .int .i64 x.A, .int .i64 x.B, .int .u64 x.K, .slice P n c]), .is (.bool true), .is (.bool (!true)), .is (.bool (!true)), .is (.agg #[.int .i64 x.op, .int .i64 x.A, .int .i64 x.B, .int .u64 x.K, .slice P n c]), .is (.agg #[.int .i64 y.op, .int .i64 y.A, .int .i64 y.B, .int .u64 y.K, .slice Q m d]), .is (.bool R), .is (.agg #[.int .i64 y.op, .int .i64 y.A, .int .i64 y.B, .int .u64 y.K, .slice Q m d]), .is (.agg #[.int .i64 x.op, .int .i64 x.A, .int .i64 x.B, .int .u64 x.K, .slice P n c]), .is (.bool R), .is (.bool false), .is (.bool false)] (by kernel_rfl) (by kernel_rfl) rfl rfl ?_ ?_
  · with_reducible refine Stab.steps_cons ?_ ?_ ?_
    · exact Stab.owes_load rfl (fun v W hb hv => by subst hv; exact (HX.out.keep hb).run) rfl
    · exact trivial
    with_reducible refine Stab.steps_cons ?_ ?_ ?_
    · exact Stab.owes_load rfl (fun v W hb hv => by subst hv; exact (HX.out.keep hb).run) rfl
    · exact trivial
    with_reducible refine Stab.steps_cons ?_ ?_ ?_
    · (refine Stab.owes_call Tryd.func20 (by kernel_rfl) (by kernel_rfl) rfl (fun vs W hb hall => ?_) rfl; obtain ⟨_, _, rfl, rfl, _, _, rfl, rfl, rfl⟩ := hall; refine (HXX.out W (HW.out.trans (hb.mono HW.out.size))).mono ?_; rintro e w2 ⟨rfl, hb2⟩; exact ⟨_, rfl, hb2, rfl⟩)
    · exact trivial
    with_reducible refine Stab.steps_cons ?_ ?_ ?_
    · exact Stab.owes_not rfl rfl (fun W => Stab.run_not _ W) rfl
    · exact trivial
    with_reducible refine Stab.steps_cons ?_ ?_ ?_
    · exact Stab.owes_move rfl rfl rfl
    · exact trivial
    with_reducible refine Stab.steps_cons ?_ ?_ ?_
    · exact Stab.owes_load rfl (fun v W hb hv => by subst hv; exact (HX.out.keep hb).run) rfl
    · exact trivial
    with_reducible refine Stab.steps_cons ?_ ?_ ?_
    · exact Stab.owes_load rfl (fun v W hb hv => by subst hv; exact (HYY.out.keep hb).run) rfl
    · exact trivial
    with_reducible refine Stab.steps_cons ?_ ?_ ?_
    · (refine Stab.owes_call Tryd.func20 (by kernel_rfl) (by kernel_rfl) rfl (fun vs W hb hall => ?_) rfl; obtain ⟨_, _, rfl, rfl, _, _, rfl, rfl, rfl⟩ := hall; refine (HXY.out W (HW.out.trans (hb.mono HW.out.size))).mono ?_; rintro e w2 ⟨rfl, hb2⟩; exact ⟨_, rfl, hb2, rfl⟩)
    · exact trivial
    with_reducible refine Stab.steps_cons ?_ ?_ ?_
    · exact Stab.owes_load rfl (fun v W hb hv => by subst hv; exact (HYY.out.keep hb).run) rfl
    · exact trivial
    with_reducible refine Stab.steps_cons ?_ ?_ ?_
    · exact Stab.owes_load rfl (fun v W hb hv => by subst hv; exact (HX.out.keep hb).run) rfl
    · exact trivial
    with_reducible refine Stab.steps_cons ?_ ?_ ?_
    · (refine Stab.owes_call Tryd.func20 (by kernel_rfl) (by kernel_rfl) rfl (fun vs W hb hall => ?_) rfl; obtain ⟨_, _, rfl, rfl, _, _, rfl, rfl, rfl⟩ := hall; refine (HYX.out W (HW.out.trans (hb.mono HW.out.size))).mono ?_; rintro e w2 ⟨rfl, hb2⟩; exact ⟨_, rfl, hb2, rfl⟩)
    · exact trivial
    with_reducible refine Stab.steps_cons ?_ ?_ ?_
    · exact Stab.owes_bin rfl rfl rfl (fun W => Stab.run_neB _ _ R R false (by cases R <;> rfl) W) rfl
    · exact trivial
    with_reducible refine Stab.steps_cons ?_ ?_ ?_
    · exact Stab.owes_pick rfl rfl rfl rfl
    · exact trivial
    exact Stab.steps_nil
  · intro W hb _
    simp only [Act.put, List.setIfInBounds_toArray, List.set_cons_succ, List.set_cons_zero]
    have HX := Lib.hid (HX.out.keep hb)
    have HYY := Lib.hid (HYY.out.keep hb)
    have HSX := Lib.hid (HSX.out.keep hb)
    have HSY := Lib.hid (HSY.out.keep hb)
    have HW := Lib.hid (HW.out.trans (hb.mono HW.out.size))
    clear hb q1 q2 q3 q4 q5 r1 r2 r3 r4 r5
    go_wp2_with fail
    refine Stab.region 63 [.is (.bool true), .is (.bool true), .is (.int .i64 1), .is (.bool true), .is (.bool true), .is undef, .is undef, .is (.bool true), .is (.bool true), .is undef, .is undef, .is undef, .is undef, .is undef, .is undef, .is undef, .is undef, .is undef, .is (.bool true), .is (.bool true), .is (.bool true)] (by kernel_rfl) (by kernel_rfl) rfl rfl ?_ ?_
    · with_reducible refine Stab.steps_cons ?_ ?_ ?_
      · exact Stab.owes_move rfl rfl rfl
      · exact trivial
      with_reducible refine Stab.steps_cons ?_ ?_ ?_
      · exact Stab.owes_move rfl rfl rfl
      · exact trivial
      with_reducible refine Stab.steps_cons ?_ ?_ ?_
      · exact Stab.owes_move rfl rfl rfl
      · exact trivial
      with_reducible refine Stab.steps_cons ?_ ?_ ?_
      · exact Stab.owes_bin rfl rfl rfl (fun W => Stab.run_neE _ _ 1 0 true rfl W) rfl
      · exact trivial
      with_reducible refine Stab.steps_cons ?_ ?_ ?_
      · exact Stab.owes_move rfl rfl rfl
      · exact trivial
      with_reducible refine Stab.steps_cons ?_ ?_ ?_
      · exact Stab.owes_off rfl
      · exact trivial
      with_reducible refine Stab.steps_cons ?_ ?_ ?_
      · exact Stab.owes_off rfl
      · exact trivial
      with_reducible refine Stab.steps_cons ?_ ?_ ?_
      · exact Stab.owes_pick rfl rfl rfl rfl
      · exact trivial
      with_reducible refine Stab.steps_cons ?_ ?_ ?_
      · exact Stab.owes_move rfl rfl rfl
      · exact trivial
      with_reducible refine Stab.steps_cons ?_ ?_ ?_
      · exact Stab.owes_off rfl
      · exact trivial
      with_reducible refine Stab.steps_cons ?_ ?_ ?_
      · exact Stab.owes_off rfl
      · exact trivial
      with_reducible refine Stab.steps_cons ?_ ?_ ?_
      · exact Stab.owes_off rfl
      · exact trivial
      with_reducible refine Stab.steps_cons ?_ ?_ ?_
      · exact Stab.owes_off rfl
      · exact trivial
      with_reducible refine Stab.steps_cons ?_ ?_ ?_
      · exact Stab.owes_off rfl
      · exact trivial
      with_reducible refine Stab.steps_cons ?_ ?_ ?_
      · exact Stab.owes_off rfl
      · exact trivial
      with_reducible refine Stab.steps_cons ?_ ?_ ?_
      · exact Stab.owes_off rfl
      · exact trivial
      with_reducible refine Stab.steps_cons ?_ ?_ ?_
      · exact Stab.owes_off rfl
      · exact trivial
      with_reducible refine Stab.steps_cons ?_ ?_ ?_
      · exact Stab.owes_off rfl
      · exact trivial
      with_reducible refine Stab.steps_cons ?_ ?_ ?_
      · exact Stab.owes_pick rfl rfl rfl rfl
      · exact trivial
      with_reducible refine Stab.steps_cons ?_ ?_ ?_
      · exact Stab.owes_pick rfl rfl rfl rfl
      · exact trivial
      with_reducible refine Stab.steps_cons ?_ ?_ ?_
      · exact Stab.owes_assign rfl rfl rfl
      · exact trivial
      exact Stab.steps_nil
    · intro W hb _
      simp only [Act.put, List.setIfInBounds_toArray, List.set_cons_succ, List.set_cons_zero]
      have HW := Lib.hid (HW.out.trans (hb.mono HW.out.size))
      go_wp2_with fail
      go_ret
      exact ⟨rfl, HW.out⟩
theorem isame_01 (x y : Ins) (P Q : Option Addr) (n c m d : Nat) (w : World) (R : Bool) (BX BY : List Int)
    (hA : ∀ W, Below w.heap.size w W → Calls Tryd.prog 9 #[] W fun e w' => e = .returned (.bool true) ∧ Below W.heap.size W w')
    (hS1 : ∀ W, Below w.heap.size w W → Calls Tryd.prog 10 #[.agg #[.int .i64 x.op, .int .i64 x.A, .int .i64 x.B, .int .u64 x.K, .slice P n c]] W fun e w' => e = .returned (.bool true) ∧ Below W.heap.size W w')
    (hS2 : ∀ W, Below w.heap.size w W → Calls Tryd.prog 10 #[.agg #[.int .i64 y.op, .int .i64 y.A, .int .i64 y.B, .int .u64 y.K, .slice Q m d]] W fun e w' => e = .returned (.bool true) ∧ Below W.heap.size W w')
    (hP1 : ∀ W, Below w.heap.size w W → Calls Tryd.prog 13 #[.slice none 0 0, .agg #[.int .i64 x.op, .int .i64 x.A, .int .i64 x.B, .int .u64 x.K, .slice P n c]] W (PutTold BX 0 W))
    (hP2 : ∀ W, Below w.heap.size w W → Calls Tryd.prog 13 #[.slice none 0 0, .agg #[.int .i64 y.op, .int .i64 y.A, .int .i64 y.B, .int .u64 y.K, .slice Q m d]] W (PutTold BY 1 W))
    (hXX : ∀ W, Below w.heap.size w W → Calls Tryd.prog 20 #[.agg #[.int .i64 x.op, .int .i64 x.A, .int .i64 x.B, .int .u64 x.K, .slice P n c], .agg #[.int .i64 x.op, .int .i64 x.A, .int .i64 x.B, .int .u64 x.K, .slice P n c]] W fun e w' => e = .returned (.bool true) ∧ Below W.heap.size W w')
    (hXY : ∀ W, Below w.heap.size w W → Calls Tryd.prog 20 #[.agg #[.int .i64 x.op, .int .i64 x.A, .int .i64 x.B, .int .u64 x.K, .slice P n c], .agg #[.int .i64 y.op, .int .i64 y.A, .int .i64 y.B, .int .u64 y.K, .slice Q m d]] W fun e w' => e = .returned (.bool R) ∧ Below W.heap.size W w')
    (hYX : ∀ W, Below w.heap.size w W → Calls Tryd.prog 20 #[.agg #[.int .i64 y.op, .int .i64 y.A, .int .i64 y.B, .int .u64 y.K, .slice Q m d], .agg #[.int .i64 x.op, .int .i64 x.A, .int .i64 x.B, .int .u64 x.K, .slice P n c]] W fun e w' => e = .returned (.bool R) ∧ Below W.heap.size W w')
    : Calls Tryd.prog 8 #[.agg #[.int .i64 x.op, .int .i64 x.A, .int .i64 x.B, .int .u64 x.K, .slice P n c], .agg #[.int .i64 y.op, .int .i64 y.A, .int .i64 y.B, .int .u64 y.K, .slice Q m d]] w fun e w' => e = .returned (.bool true) ∧ Below w.heap.size w w' := by
  have HA := Lib.hid hA
  have HS1 := Lib.hid hS1
  have HS2 := Lib.hid hS2
  have HP1 := Lib.hid hP1
  have HP2 := Lib.hid hP2
  have HXX := Lib.hid hXX
  have HXY := Lib.hid hXY
  have HYX := Lib.hid hYX
  clear hA hS1 hS2 hP1 hP2 hXX hXY hYX
  have HW := Lib.hid (((Below.refl w.heap.size w).alloc (Nat.le_refl _) (.cells #[.int .i64 x.op, .int .i64 x.A, .int .i64 x.B, .int .u64 x.K, .slice P n c] 26)).alloc (by simp) (.cells #[.int .i64 y.op, .int .i64 y.A, .int .i64 y.B, .int .u64 y.K, .slice Q m d] 26))
  have HX := Lib.hid ((InAt.at_ w w.heap.size x.op x.A x.B x.K (.slice P n c) 26 rfl).keep ((Below.refl _ _).alloc (Nat.le_refl _) (.cells #[.int .i64 y.op, .int .i64 y.A, .int .i64 y.B, .int .u64 y.K, .slice Q m d] 26)))
  have HYY := Lib.hid (InAt.at_ (w.alloc (.cells #[.int .i64 x.op, .int .i64 x.A, .int .i64 x.B, .int .u64 x.K, .slice P n c] 26)) (w.heap.size + 1) y.op y.A y.B y.K (.slice Q m d) 26 (by simp))
  obtain ⟨_, q1, q2, q3, q4, q5, _, _, _, _, _⟩ := HX.out
  obtain ⟨_, r1, r2, r3, r4, r5, _, _, _, _, _⟩ := HYY.out
  go_enter Tryd.func8, Tryd.ntmps8
  go_wp2_with fail
  refine (HA.out _ HW.out).mono ?_
  rintro e w1 ⟨rfl, hb⟩
  have HX := Lib.hid (HX.out.keep hb)
  have HYY := Lib.hid (HYY.out.keep hb)
  have HW := Lib.hid (HW.out.trans (hb.mono HW.out.size))
  clear hb
  clear q1 q2 q3 q4 q5 r1 r2 r3 r4 r5
  obtain ⟨_, q1, q2, q3, q4, q5, _, _, _, _, _⟩ := HX.out
  obtain ⟨_, r1, r2, r3, r4, r5, _, _, _, _, _⟩ := HYY.out
  go_wp2_with fail
  refine (HS1.out _ HW.out).mono ?_
  rintro e w2 ⟨rfl, hb⟩
  have HX := Lib.hid (HX.out.keep hb)
  have HYY := Lib.hid (HYY.out.keep hb)
  have HW := Lib.hid (HW.out.trans (hb.mono HW.out.size))
  clear hb
  clear q1 q2 q3 q4 q5 r1 r2 r3 r4 r5
  obtain ⟨_, q1, q2, q3, q4, q5, _, _, _, _, _⟩ := HX.out
  obtain ⟨_, r1, r2, r3, r4, r5, _, _, _, _, _⟩ := HYY.out
  go_wp2_with fail
  refine (HS2.out _ HW.out).mono ?_
  rintro e w3 ⟨rfl, hb⟩
  have HX := Lib.hid (HX.out.keep hb)
  have HYY := Lib.hid (HYY.out.keep hb)
  have HW := Lib.hid (HW.out.trans (hb.mono HW.out.size))
  clear hb
  clear q1 q2 q3 q4 q5 r1 r2 r3 r4 r5
  obtain ⟨_, q1, q2, q3, q4, q5, _, _, _, _, _⟩ := HX.out
  obtain ⟨_, r1, r2, r3, r4, r5, _, _, _, _, _⟩ := HYY.out
  go_wp2_with fail
  refine (HP1.out _ HW.out).mono ?_
  rintro e w4 ⟨vx, rfl, hs, hb⟩
  have HX := Lib.hid (HX.out.keep hb)
  have HYY := Lib.hid (HYY.out.keep hb)
  have HW := Lib.hid (HW.out.trans (hb.mono HW.out.size))
  have HSX := Lib.hid hs
  obtain ⟨AX, cX, rfl, _⟩ := id hs
  clear hs
  clear hb
  clear q1 q2 q3 q4 q5 r1 r2 r3 r4 r5
  obtain ⟨_, q1, q2, q3, q4, q5, _, _, _, _, _⟩ := HX.out
  obtain ⟨_, r1, r2, r3, r4, r5, _, _, _, _, _⟩ := HYY.out
  go_wp2_with fail
  refine (HP2.out _ HW.out).mono ?_
  rintro e w5 ⟨vy, rfl, hs, hb⟩
  have HX := Lib.hid (HX.out.keep hb)
  have HYY := Lib.hid (HYY.out.keep hb)
  have HSX := Lib.hid (HSX.out.keep hb)
  have HW := Lib.hid (HW.out.trans (hb.mono HW.out.size))
  have HSY := Lib.hid hs
  obtain ⟨AY, cY, rfl, _⟩ := id hs
  clear hs
  clear hb
  clear q1 q2 q3 q4 q5 r1 r2 r3 r4 r5
  obtain ⟨_, q1, q2, q3, q4, q5, _, _, _, _, _⟩ := HX.out
  obtain ⟨_, r1, r2, r3, r4, r5, _, _, _, _, _⟩ := HYY.out
  go_wp2_with fail
  refine Stab.region 63 [.is (.agg #[.int .i64 x.op, .int .i64 x.A, .int .i64 x.B, .int .u64 x.K, .slice P n c]), .is (.agg #[.int .i64 x.op, .int .i64 x.A, .int .i64 x.B, .int .u64 x.K, .slice P n c]), .is (.bool true), .is (.bool (!true)), .is (.bool (!true)), .is (.agg #[.int .i64 x.op, .int .i64 x.A, .int .i64 x.B, .int .u64 x.K, .slice P n c]), .is (.agg #[.int .i64 y.op, .int .i64 y.A, .int .i64 y.B, .int .u64 y.K, .slice Q m d]), .is (.bool R), .is (.agg #[.int .i64 y.op, .int .i64 y.A, .int .i64 y.B, .int .u64 y.K, .slice Q m d]), .is (.agg #[.int .i64 x.op, .int .i64 x.A, .int .i64 x.B, .int .u64 x.K, .slice P n c]), .is (.bool R), .is (.bool false), .is (.bool false)] (by kernel_rfl) (by kernel_rfl) rfl rfl ?_ ?_
  · with_reducible refine Stab.steps_cons ?_ ?_ ?_
    · exact Stab.owes_load rfl (fun v W hb hv => by subst hv; exact (HX.out.keep hb).run) rfl
    · exact trivial
    with_reducible refine Stab.steps_cons ?_ ?_ ?_
    · exact Stab.owes_load rfl (fun v W hb hv => by subst hv; exact (HX.out.keep hb).run) rfl
    · exact trivial
    with_reducible refine Stab.steps_cons ?_ ?_ ?_
    · (refine Stab.owes_call Tryd.func20 (by kernel_rfl) (by kernel_rfl) rfl (fun vs W hb hall => ?_) rfl; obtain ⟨_, _, rfl, rfl, _, _, rfl, rfl, rfl⟩ := hall; refine (HXX.out W (HW.out.trans (hb.mono HW.out.size))).mono ?_; rintro e w2 ⟨rfl, hb2⟩; exact ⟨_, rfl, hb2, rfl⟩)
    · exact trivial
    with_reducible refine Stab.steps_cons ?_ ?_ ?_
    · exact Stab.owes_not rfl rfl (fun W => Stab.run_not _ W) rfl
    · exact trivial
    with_reducible refine Stab.steps_cons ?_ ?_ ?_
    · exact Stab.owes_move rfl rfl rfl
    · exact trivial
    with_reducible refine Stab.steps_cons ?_ ?_ ?_
    · exact Stab.owes_load rfl (fun v W hb hv => by subst hv; exact (HX.out.keep hb).run) rfl
    · exact trivial
    with_reducible refine Stab.steps_cons ?_ ?_ ?_
    · exact Stab.owes_load rfl (fun v W hb hv => by subst hv; exact (HYY.out.keep hb).run) rfl
    · exact trivial
    with_reducible refine Stab.steps_cons ?_ ?_ ?_
    · (refine Stab.owes_call Tryd.func20 (by kernel_rfl) (by kernel_rfl) rfl (fun vs W hb hall => ?_) rfl; obtain ⟨_, _, rfl, rfl, _, _, rfl, rfl, rfl⟩ := hall; refine (HXY.out W (HW.out.trans (hb.mono HW.out.size))).mono ?_; rintro e w2 ⟨rfl, hb2⟩; exact ⟨_, rfl, hb2, rfl⟩)
    · exact trivial
    with_reducible refine Stab.steps_cons ?_ ?_ ?_
    · exact Stab.owes_load rfl (fun v W hb hv => by subst hv; exact (HYY.out.keep hb).run) rfl
    · exact trivial
    with_reducible refine Stab.steps_cons ?_ ?_ ?_
    · exact Stab.owes_load rfl (fun v W hb hv => by subst hv; exact (HX.out.keep hb).run) rfl
    · exact trivial
    with_reducible refine Stab.steps_cons ?_ ?_ ?_
    · (refine Stab.owes_call Tryd.func20 (by kernel_rfl) (by kernel_rfl) rfl (fun vs W hb hall => ?_) rfl; obtain ⟨_, _, rfl, rfl, _, _, rfl, rfl, rfl⟩ := hall; refine (HYX.out W (HW.out.trans (hb.mono HW.out.size))).mono ?_; rintro e w2 ⟨rfl, hb2⟩; exact ⟨_, rfl, hb2, rfl⟩)
    · exact trivial
    with_reducible refine Stab.steps_cons ?_ ?_ ?_
    · exact Stab.owes_bin rfl rfl rfl (fun W => Stab.run_neB _ _ R R false (by cases R <;> rfl) W) rfl
    · exact trivial
    with_reducible refine Stab.steps_cons ?_ ?_ ?_
    · exact Stab.owes_pick rfl rfl rfl rfl
    · exact trivial
    exact Stab.steps_nil
  · intro W hb _
    simp only [Act.put, List.setIfInBounds_toArray, List.set_cons_succ, List.set_cons_zero]
    have HX := Lib.hid (HX.out.keep hb)
    have HYY := Lib.hid (HYY.out.keep hb)
    have HSX := Lib.hid (HSX.out.keep hb)
    have HSY := Lib.hid (HSY.out.keep hb)
    have HW := Lib.hid (HW.out.trans (hb.mono HW.out.size))
    clear hb q1 q2 q3 q4 q5 r1 r2 r3 r4 r5
    go_wp2_with fail
    refine Stab.region 63 [.is (.bool true), .is (.bool true), .is (.int .i64 0), .is (.bool false), .is (.bool false), .is (.int .i64 1), .is (.bool true), .is (.bool true), .is (.bool true), .is undef, .is undef, .is undef, .is undef, .is undef, .is undef, .is undef, .is undef, .is undef, .is (.bool true), .is (.bool true), .is (.bool true)] (by kernel_rfl) (by kernel_rfl) rfl rfl ?_ ?_
    · with_reducible refine Stab.steps_cons ?_ ?_ ?_
      · exact Stab.owes_move rfl rfl rfl
      · exact trivial
      with_reducible refine Stab.steps_cons ?_ ?_ ?_
      · exact Stab.owes_move rfl rfl rfl
      · exact trivial
      with_reducible refine Stab.steps_cons ?_ ?_ ?_
      · exact Stab.owes_move rfl rfl rfl
      · exact trivial
      with_reducible refine Stab.steps_cons ?_ ?_ ?_
      · exact Stab.owes_bin rfl rfl rfl (fun W => Stab.run_neE _ _ 0 0 false rfl W) rfl
      · exact trivial
      with_reducible refine Stab.steps_cons ?_ ?_ ?_
      · exact Stab.owes_move rfl rfl rfl
      · exact trivial
      with_reducible refine Stab.steps_cons ?_ ?_ ?_
      · exact Stab.owes_move rfl rfl rfl
      · exact trivial
      with_reducible refine Stab.steps_cons ?_ ?_ ?_
      · exact Stab.owes_bin rfl rfl rfl (fun W => Stab.run_neE _ _ 1 0 true rfl W) rfl
      · exact trivial
      with_reducible refine Stab.steps_cons ?_ ?_ ?_
      · exact Stab.owes_pick rfl rfl rfl rfl
      · exact trivial
      with_reducible refine Stab.steps_cons ?_ ?_ ?_
      · exact Stab.owes_move rfl rfl rfl
      · exact trivial
      with_reducible refine Stab.steps_cons ?_ ?_ ?_
      · exact Stab.owes_off rfl
      · exact trivial
      with_reducible refine Stab.steps_cons ?_ ?_ ?_
      · exact Stab.owes_off rfl
      · exact trivial
      with_reducible refine Stab.steps_cons ?_ ?_ ?_
      · exact Stab.owes_off rfl
      · exact trivial
      with_reducible refine Stab.steps_cons ?_ ?_ ?_
      · exact Stab.owes_off rfl
      · exact trivial
      with_reducible refine Stab.steps_cons ?_ ?_ ?_
      · exact Stab.owes_off rfl
      · exact trivial
      with_reducible refine Stab.steps_cons ?_ ?_ ?_
      · exact Stab.owes_off rfl
      · exact trivial
      with_reducible refine Stab.steps_cons ?_ ?_ ?_
      · exact Stab.owes_off rfl
      · exact trivial
      with_reducible refine Stab.steps_cons ?_ ?_ ?_
      · exact Stab.owes_off rfl
      · exact trivial
      with_reducible refine Stab.steps_cons ?_ ?_ ?_
      · exact Stab.owes_off rfl
      · exact trivial
      with_reducible refine Stab.steps_cons ?_ ?_ ?_
      · exact Stab.owes_pick rfl rfl rfl rfl
      · exact trivial
      with_reducible refine Stab.steps_cons ?_ ?_ ?_
      · exact Stab.owes_pick rfl rfl rfl rfl
      · exact trivial
      with_reducible refine Stab.steps_cons ?_ ?_ ?_
      · exact Stab.owes_assign rfl rfl rfl
      · exact trivial
      exact Stab.steps_nil
    · intro W hb _
      simp only [Act.put, List.setIfInBounds_toArray, List.set_cons_succ, List.set_cons_zero]
      have HW := Lib.hid (HW.out.trans (hb.mono HW.out.size))
      go_wp2_with fail
      go_ret
      exact ⟨rfl, HW.out⟩
theorem isame_00 (x y : Ins) (P Q : Option Addr) (n c m d : Nat) (w : World) (R : Bool) (BX BY : List Int)
    (hA : ∀ W, Below w.heap.size w W → Calls Tryd.prog 9 #[] W fun e w' => e = .returned (.bool true) ∧ Below W.heap.size W w')
    (hS1 : ∀ W, Below w.heap.size w W → Calls Tryd.prog 10 #[.agg #[.int .i64 x.op, .int .i64 x.A, .int .i64 x.B, .int .u64 x.K, .slice P n c]] W fun e w' => e = .returned (.bool true) ∧ Below W.heap.size W w')
    (hS2 : ∀ W, Below w.heap.size w W → Calls Tryd.prog 10 #[.agg #[.int .i64 y.op, .int .i64 y.A, .int .i64 y.B, .int .u64 y.K, .slice Q m d]] W fun e w' => e = .returned (.bool true) ∧ Below W.heap.size W w')
    (hP1 : ∀ W, Below w.heap.size w W → Calls Tryd.prog 13 #[.slice none 0 0, .agg #[.int .i64 x.op, .int .i64 x.A, .int .i64 x.B, .int .u64 x.K, .slice P n c]] W (PutTold BX 0 W))
    (hP2 : ∀ W, Below w.heap.size w W → Calls Tryd.prog 13 #[.slice none 0 0, .agg #[.int .i64 y.op, .int .i64 y.A, .int .i64 y.B, .int .u64 y.K, .slice Q m d]] W (PutTold BY 0 W))
    (hXX : ∀ W, Below w.heap.size w W → Calls Tryd.prog 20 #[.agg #[.int .i64 x.op, .int .i64 x.A, .int .i64 x.B, .int .u64 x.K, .slice P n c], .agg #[.int .i64 x.op, .int .i64 x.A, .int .i64 x.B, .int .u64 x.K, .slice P n c]] W fun e w' => e = .returned (.bool true) ∧ Below W.heap.size W w')
    (hXY : ∀ W, Below w.heap.size w W → Calls Tryd.prog 20 #[.agg #[.int .i64 x.op, .int .i64 x.A, .int .i64 x.B, .int .u64 x.K, .slice P n c], .agg #[.int .i64 y.op, .int .i64 y.A, .int .i64 y.B, .int .u64 y.K, .slice Q m d]] W fun e w' => e = .returned (.bool R) ∧ Below W.heap.size W w')
    (hYX : ∀ W, Below w.heap.size w W → Calls Tryd.prog 20 #[.agg #[.int .i64 y.op, .int .i64 y.A, .int .i64 y.B, .int .u64 y.K, .slice Q m d], .agg #[.int .i64 x.op, .int .i64 x.A, .int .i64 x.B, .int .u64 x.K, .slice P n c]] W fun e w' => e = .returned (.bool R) ∧ Below W.heap.size W w')
    (hR : ((strOfNums BX).toList == (strOfNums BY).toList) = R)
    : Calls Tryd.prog 8 #[.agg #[.int .i64 x.op, .int .i64 x.A, .int .i64 x.B, .int .u64 x.K, .slice P n c], .agg #[.int .i64 y.op, .int .i64 y.A, .int .i64 y.B, .int .u64 y.K, .slice Q m d]] w fun e w' => e = .returned (.bool true) ∧ Below w.heap.size w w' := by
  have HR := Lib.hid hR
  clear hR
  have HA := Lib.hid hA
  have HS1 := Lib.hid hS1
  have HS2 := Lib.hid hS2
  have HP1 := Lib.hid hP1
  have HP2 := Lib.hid hP2
  have HXX := Lib.hid hXX
  have HXY := Lib.hid hXY
  have HYX := Lib.hid hYX
  clear hA hS1 hS2 hP1 hP2 hXX hXY hYX
  have HW := Lib.hid (((Below.refl w.heap.size w).alloc (Nat.le_refl _) (.cells #[.int .i64 x.op, .int .i64 x.A, .int .i64 x.B, .int .u64 x.K, .slice P n c] 26)).alloc (by simp) (.cells #[.int .i64 y.op, .int .i64 y.A, .int .i64 y.B, .int .u64 y.K, .slice Q m d] 26))
  have HX := Lib.hid ((InAt.at_ w w.heap.size x.op x.A x.B x.K (.slice P n c) 26 rfl).keep ((Below.refl _ _).alloc (Nat.le_refl _) (.cells #[.int .i64 y.op, .int .i64 y.A, .int .i64 y.B, .int .u64 y.K, .slice Q m d] 26)))
  have HYY := Lib.hid (InAt.at_ (w.alloc (.cells #[.int .i64 x.op, .int .i64 x.A, .int .i64 x.B, .int .u64 x.K, .slice P n c] 26)) (w.heap.size + 1) y.op y.A y.B y.K (.slice Q m d) 26 (by simp))
  obtain ⟨_, q1, q2, q3, q4, q5, _, _, _, _, _⟩ := HX.out
  obtain ⟨_, r1, r2, r3, r4, r5, _, _, _, _, _⟩ := HYY.out
  go_enter Tryd.func8, Tryd.ntmps8
  go_wp2_with fail
  refine (HA.out _ HW.out).mono ?_
  rintro e w1 ⟨rfl, hb⟩
  have HX := Lib.hid (HX.out.keep hb)
  have HYY := Lib.hid (HYY.out.keep hb)
  have HW := Lib.hid (HW.out.trans (hb.mono HW.out.size))
  clear hb
  clear q1 q2 q3 q4 q5 r1 r2 r3 r4 r5
  obtain ⟨_, q1, q2, q3, q4, q5, _, _, _, _, _⟩ := HX.out
  obtain ⟨_, r1, r2, r3, r4, r5, _, _, _, _, _⟩ := HYY.out
  go_wp2_with fail
  refine (HS1.out _ HW.out).mono ?_
  rintro e w2 ⟨rfl, hb⟩
  have HX := Lib.hid (HX.out.keep hb)
  have HYY := Lib.hid (HYY.out.keep hb)
  have HW := Lib.hid (HW.out.trans (hb.mono HW.out.size))
  clear hb
  clear q1 q2 q3 q4 q5 r1 r2 r3 r4 r5
  obtain ⟨_, q1, q2, q3, q4, q5, _, _, _, _, _⟩ := HX.out
  obtain ⟨_, r1, r2, r3, r4, r5, _, _, _, _, _⟩ := HYY.out
  go_wp2_with fail
  refine (HS2.out _ HW.out).mono ?_
  rintro e w3 ⟨rfl, hb⟩
  have HX := Lib.hid (HX.out.keep hb)
  have HYY := Lib.hid (HYY.out.keep hb)
  have HW := Lib.hid (HW.out.trans (hb.mono HW.out.size))
  clear hb
  clear q1 q2 q3 q4 q5 r1 r2 r3 r4 r5
  obtain ⟨_, q1, q2, q3, q4, q5, _, _, _, _, _⟩ := HX.out
  obtain ⟨_, r1, r2, r3, r4, r5, _, _, _, _, _⟩ := HYY.out
  go_wp2_with fail
  refine (HP1.out _ HW.out).mono ?_
  rintro e w4 ⟨vx, rfl, hs, hb⟩
  have HX := Lib.hid (HX.out.keep hb)
  have HYY := Lib.hid (HYY.out.keep hb)
  have HW := Lib.hid (HW.out.trans (hb.mono HW.out.size))
  have HSX := Lib.hid hs
  obtain ⟨AX, cX, rfl, _⟩ := id hs
  clear hs
  clear hb
  clear q1 q2 q3 q4 q5 r1 r2 r3 r4 r5
  obtain ⟨_, q1, q2, q3, q4, q5, _, _, _, _, _⟩ := HX.out
  obtain ⟨_, r1, r2, r3, r4, r5, _, _, _, _, _⟩ := HYY.out
  go_wp2_with fail
  refine (HP2.out _ HW.out).mono ?_
  rintro e w5 ⟨vy, rfl, hs, hb⟩
  have HX := Lib.hid (HX.out.keep hb)
  have HYY := Lib.hid (HYY.out.keep hb)
  have HSX := Lib.hid (HSX.out.keep hb)
  have HW := Lib.hid (HW.out.trans (hb.mono HW.out.size))
  have HSY := Lib.hid hs
  obtain ⟨AY, cY, rfl, _⟩ := id hs
  clear hs
  clear hb
  clear q1 q2 q3 q4 q5 r1 r2 r3 r4 r5
  obtain ⟨_, q1, q2, q3, q4, q5, _, _, _, _, _⟩ := HX.out
  obtain ⟨_, r1, r2, r3, r4, r5, _, _, _, _, _⟩ := HYY.out
  go_wp2_with fail
  refine Stab.region 63 [.is (.agg #[.int .i64 x.op, .int .i64 x.A, .int .i64 x.B, .int .u64 x.K, .slice P n c]), .is (.agg #[.int .i64 x.op, .int .i64 x.A, .int .i64 x.B, .int .u64 x.K, .slice P n c]), .is (.bool true), .is (.bool (!true)), .is (.bool (!true)), .is (.agg #[.int .i64 x.op, .int .i64 x.A, .int .i64 x.B, .int .u64 x.K, .slice P n c]), .is (.agg #[.int .i64 y.op, .int .i64 y.A, .int .i64 y.B, .int .u64 y.K, .slice Q m d]), .is (.bool R), .is (.agg #[.int .i64 y.op, .int .i64 y.A, .int .i64 y.B, .int .u64 y.K, .slice Q m d]), .is (.agg #[.int .i64 x.op, .int .i64 x.A, .int .i64 x.B, .int .u64 x.K, .slice P n c]), .is (.bool R), .is (.bool false), .is (.bool false)] (by kernel_rfl) (by kernel_rfl) rfl rfl ?_ ?_
  · with_reducible refine Stab.steps_cons ?_ ?_ ?_
    · exact Stab.owes_load rfl (fun v W hb hv => by subst hv; exact (HX.out.keep hb).run) rfl
    · exact trivial
    with_reducible refine Stab.steps_cons ?_ ?_ ?_
    · exact Stab.owes_load rfl (fun v W hb hv => by subst hv; exact (HX.out.keep hb).run) rfl
    · exact trivial
    with_reducible refine Stab.steps_cons ?_ ?_ ?_
    · (refine Stab.owes_call Tryd.func20 (by kernel_rfl) (by kernel_rfl) rfl (fun vs W hb hall => ?_) rfl; obtain ⟨_, _, rfl, rfl, _, _, rfl, rfl, rfl⟩ := hall; refine (HXX.out W (HW.out.trans (hb.mono HW.out.size))).mono ?_; rintro e w2 ⟨rfl, hb2⟩; exact ⟨_, rfl, hb2, rfl⟩)
    · exact trivial
    with_reducible refine Stab.steps_cons ?_ ?_ ?_
    · exact Stab.owes_not rfl rfl (fun W => Stab.run_not _ W) rfl
    · exact trivial
    with_reducible refine Stab.steps_cons ?_ ?_ ?_
    · exact Stab.owes_move rfl rfl rfl
    · exact trivial
    with_reducible refine Stab.steps_cons ?_ ?_ ?_
    · exact Stab.owes_load rfl (fun v W hb hv => by subst hv; exact (HX.out.keep hb).run) rfl
    · exact trivial
    with_reducible refine Stab.steps_cons ?_ ?_ ?_
    · exact Stab.owes_load rfl (fun v W hb hv => by subst hv; exact (HYY.out.keep hb).run) rfl
    · exact trivial
    with_reducible refine Stab.steps_cons ?_ ?_ ?_
    · (refine Stab.owes_call Tryd.func20 (by kernel_rfl) (by kernel_rfl) rfl (fun vs W hb hall => ?_) rfl; obtain ⟨_, _, rfl, rfl, _, _, rfl, rfl, rfl⟩ := hall; refine (HXY.out W (HW.out.trans (hb.mono HW.out.size))).mono ?_; rintro e w2 ⟨rfl, hb2⟩; exact ⟨_, rfl, hb2, rfl⟩)
    · exact trivial
    with_reducible refine Stab.steps_cons ?_ ?_ ?_
    · exact Stab.owes_load rfl (fun v W hb hv => by subst hv; exact (HYY.out.keep hb).run) rfl
    · exact trivial
    with_reducible refine Stab.steps_cons ?_ ?_ ?_
    · exact Stab.owes_load rfl (fun v W hb hv => by subst hv; exact (HX.out.keep hb).run) rfl
    · exact trivial
    with_reducible refine Stab.steps_cons ?_ ?_ ?_
    · (refine Stab.owes_call Tryd.func20 (by kernel_rfl) (by kernel_rfl) rfl (fun vs W hb hall => ?_) rfl; obtain ⟨_, _, rfl, rfl, _, _, rfl, rfl, rfl⟩ := hall; refine (HYX.out W (HW.out.trans (hb.mono HW.out.size))).mono ?_; rintro e w2 ⟨rfl, hb2⟩; exact ⟨_, rfl, hb2, rfl⟩)
    · exact trivial
    with_reducible refine Stab.steps_cons ?_ ?_ ?_
    · exact Stab.owes_bin rfl rfl rfl (fun W => Stab.run_neB _ _ R R false (by cases R <;> rfl) W) rfl
    · exact trivial
    with_reducible refine Stab.steps_cons ?_ ?_ ?_
    · exact Stab.owes_pick rfl rfl rfl rfl
    · exact trivial
    exact Stab.steps_nil
  · intro W hb _
    simp only [Act.put, List.setIfInBounds_toArray, List.set_cons_succ, List.set_cons_zero]
    have HX := Lib.hid (HX.out.keep hb)
    have HYY := Lib.hid (HYY.out.keep hb)
    have HSX := Lib.hid (HSX.out.keep hb)
    have HSY := Lib.hid (HSY.out.keep hb)
    have HW := Lib.hid (HW.out.trans (hb.mono HW.out.size))
    clear hb q1 q2 q3 q4 q5 r1 r2 r3 r4 r5
    go_wp2_with fail
    refine Stab.region 63 [.is (.bool true), .is (.bool true), .is (.int .i64 0), .is (.bool false), .is (.bool false), .is (.int .i64 0), .is (.bool false), .is (.bool false), .is (.bool false), .is (.agg #[.int .i64 x.op, .int .i64 x.A, .int .i64 x.B, .int .u64 x.K, .slice P n c]), .is (.agg #[.int .i64 y.op, .int .i64 y.A, .int .i64 y.B, .int .u64 y.K, .slice Q m d]), .is (.bool R), .is (.slice AX BX.length cX), .is (.string (strOfNums BX)), .is (.slice AY BY.length cY), .is (.string (strOfNums BY)), .is (.bool R), .is (.bool true), .is (.bool true), .is (.bool true), .is (.bool true)] (by kernel_rfl) (by kernel_rfl) rfl rfl ?_ ?_
    · with_reducible refine Stab.steps_cons ?_ ?_ ?_
      · exact Stab.owes_move rfl rfl rfl
      · exact trivial
      with_reducible refine Stab.steps_cons ?_ ?_ ?_
      · exact Stab.owes_move rfl rfl rfl
      · exact trivial
      with_reducible refine Stab.steps_cons ?_ ?_ ?_
      · exact Stab.owes_move rfl rfl rfl
      · exact trivial
      with_reducible refine Stab.steps_cons ?_ ?_ ?_
      · exact Stab.owes_bin rfl rfl rfl (fun W => Stab.run_neE _ _ 0 0 false rfl W) rfl
      · exact trivial
      with_reducible refine Stab.steps_cons ?_ ?_ ?_
      · exact Stab.owes_move rfl rfl rfl
      · exact trivial
      with_reducible refine Stab.steps_cons ?_ ?_ ?_
      · exact Stab.owes_move rfl rfl rfl
      · exact trivial
      with_reducible refine Stab.steps_cons ?_ ?_ ?_
      · exact Stab.owes_bin rfl rfl rfl (fun W => Stab.run_neE _ _ 0 0 false rfl W) rfl
      · exact trivial
      with_reducible refine Stab.steps_cons ?_ ?_ ?_
      · exact Stab.owes_pick rfl rfl rfl rfl
      · exact trivial
      with_reducible refine Stab.steps_cons ?_ ?_ ?_
      · exact Stab.owes_move rfl rfl rfl
      · exact trivial
      with_reducible refine Stab.steps_cons ?_ ?_ ?_
      · exact Stab.owes_load rfl (fun v W hb hv => by subst hv; exact (HX.out.keep hb).run) rfl
      · exact trivial
      with_reducible refine Stab.steps_cons ?_ ?_ ?_
      · exact Stab.owes_load rfl (fun v W hb hv => by subst hv; exact (HYY.out.keep hb).run) rfl
      · exact trivial
      with_reducible refine Stab.steps_cons ?_ ?_ ?_
      · (refine Stab.owes_call Tryd.func20 (by kernel_rfl) (by kernel_rfl) rfl (fun vs W hb hall => ?_) rfl; obtain ⟨_, _, rfl, rfl, _, _, rfl, rfl, rfl⟩ := hall; refine (HXY.out W (HW.out.trans (hb.mono HW.out.size))).mono ?_; rintro e w2 ⟨rfl, hb2⟩; exact ⟨_, rfl, hb2, rfl⟩)
      · exact trivial
      with_reducible refine Stab.steps_cons ?_ ?_ ?_
      · exact Stab.owes_move rfl rfl rfl
      · exact trivial
      with_reducible refine Stab.steps_cons ?_ ?_ ?_
      · exact Stab.owes_convert rfl (fun v W hb hv => by subst hv; exact sl_txt (HSX.out.keep hb)) rfl
      · exact trivial
      with_reducible refine Stab.steps_cons ?_ ?_ ?_
      · exact Stab.owes_move rfl rfl rfl
      · exact trivial
      with_reducible refine Stab.steps_cons ?_ ?_ ?_
      · exact Stab.owes_convert rfl (fun v W hb hv => by subst hv; exact sl_txt (HSY.out.keep hb)) rfl
      · exact trivial
      with_reducible refine Stab.steps_cons ?_ ?_ ?_
      · exact Stab.owes_bin rfl rfl rfl (fun W => Stab.run_eqS _ _ _ _ R HR.out W) rfl
      · exact trivial
      with_reducible refine Stab.steps_cons ?_ ?_ ?_
      · exact Stab.owes_bin rfl rfl rfl (fun W => Stab.run_eqB _ _ R R true (by cases R <;> rfl) W) rfl
      · exact trivial
      with_reducible refine Stab.steps_cons ?_ ?_ ?_
      · exact Stab.owes_pick rfl rfl rfl rfl
      · exact trivial
      with_reducible refine Stab.steps_cons ?_ ?_ ?_
      · exact Stab.owes_pick rfl rfl rfl rfl
      · exact trivial
      with_reducible refine Stab.steps_cons ?_ ?_ ?_
      · exact Stab.owes_assign rfl rfl rfl
      · exact trivial
      exact Stab.steps_nil
    · intro W hb _
      simp only [Act.put, List.setIfInBounds_toArray, List.set_cons_succ, List.set_cons_zero]
      have HW := Lib.hid (HW.out.trans (hb.mono HW.out.size))
      go_wp2_with fail
      go_ret
      exact ⟨rfl, HW.out⟩
theorem smI_comm (x y : Ins) : smI y x = smI x y := by
  unfold smI
  exact decide_eq_decide.2 ⟨fun ⟨a, b, c, d, e⟩ => ⟨a.symm, b.symm, c.symm, d.symm, e.symm⟩, fun ⟨a, b, c, d, e⟩ => ⟨a.symm, b.symm, c.symm, d.symm, e.symm⟩⟩
theorem smI_self (x : Ins) : smI x x = true := by unfold smI; simp
theorem smI_iff (x y : Ins) : smI x y = true ↔ x = y := by
  unfold smI
  rw [decide_eq_true_iff]
  obtain ⟨a, b, c, d, e⟩ := x
  obtain ⟨a', b', c', d', e'⟩ := y
  simp
theorem str_beqI {a b : List Int} (ha : ∀ x ∈ a, 0 ≤ x ∧ x < 256) (hb : ∀ x ∈ b, 0 ≤ x ∧ x < 256) : ((strOfNums a).toList == (strOfNums b).toList) = decide (a = b) := by
  by_cases h : a = b
  · subst h; simp
  · rw [decide_eq_false h]
    have : (strOfNums a).toList ≠ (strOfNums b).toList := fun e => h (str_inj ha hb (by
      rw [Lib.toList_data, Lib.toList_data] at e
      exact ByteArray.ext (Array.toList_inj.1 e)))
    simpa using this
theorem same_bytes {x y : Ins} (hx : u64R x.K) (hy : u64R y.K) (h : saneI x = true) (k : saneI y = true) : ((strOfNums (ib x)).toList == (strOfNums (ib y)).toList) = smI x y := by
  rw [str_beqI (ib_facts hx h).2.2.1 (ib_facts hy k).2.2.1, Bool.eq_iff_iff, smI_iff, ← ib_inj hx hy h k, decide_eq_true_iff]
theorem isame_law (x y : Ins) (P Q : Option Addr) (n c m d : Nat) (zx zy : List Int) (w : World) (hK : KTab w) (ex : x.L = zx.take n) (ey : y.L = zy.take m) (hx : Leb.Came .i64 w P n c zx) (hy : Leb.Came .i64 w Q m d zy) (ux : u64R x.K) (uy : u64R y.K) :
    Calls Tryd.prog 8 #[.agg #[.int .i64 x.op, .int .i64 x.A, .int .i64 x.B, .int .u64 x.K, .slice P n c], .agg #[.int .i64 y.op, .int .i64 y.A, .int .i64 y.B, .int .u64 y.K, .slice Q m d]] w fun e w' => e = .returned (.bool true) ∧ Below w.heap.size w w' := by
  have sx := came_slI hx
  have sy := came_slI hy
  rw [← ex] at sx
  rw [← ey] at sy
  have hA := fun W (hW : Below w.heap.size w W) => awake_any W (hK.keep hW)
  have hS1 := fun W (hW : Below w.heap.size w W) => small_core x.op x.A x.B x.K P n c W _ rfl
  have hS2 := fun W (hW : Below w.heap.size w W) => small_core y.op y.A y.B y.K Q m d W _ rfl
  cases h1 : decide ((n : Int) ≤ 100) with
  | false => rw [h1] at hS1; exact isame_far1 x y P Q n c m d w hA hS1
  | true =>
    cases h2 : decide ((m : Int) ≤ 100) with
    | false => rw [h1] at hS1; rw [h2] at hS2; exact isame_far2 x y P Q n c m d w hA hS1 hS2
    | true =>
      rw [h1] at hS1
      rw [h2] at hS2
      have hP1 := fun W (hW : Below w.heap.size w W) => pput_any (x := x) (Sl.nil W) (by simp) (sx.keep hW) ux (hK.keep hW)
      have hP2 := fun W (hW : Below w.heap.size w W) => pput_any (x := y) (Sl.nil W) (by simp) (sy.keep hW) uy (hK.keep hW)
      have hXX : ∀ W, Below w.heap.size w W → _ := fun W hW => psame_any (x := x) (y := x) (sx.keep hW) (sx.keep hW)
      have hXY : ∀ W, Below w.heap.size w W → _ := fun W hW => psame_any (x := x) (y := y) (sx.keep hW) (sy.keep hW)
      have hYX : ∀ W, Below w.heap.size w W → _ := fun W hW => psame_any (x := y) (y := x) (sy.keep hW) (sx.keep hW)
      rw [smI_self] at hXX
      rw [smI_comm] at hYX
      unfold PutIs at hP1 hP2
      cases k1 : saneI x with
      | false =>
        rw [k1] at hP1
        cases k2 : saneI y with
        | false => rw [k2] at hP2; exact isame_11 x y P Q n c m d w _ _ _ hA hS1 hS2 hP1 hP2 hXX hXY hYX
        | true => rw [k2] at hP2; exact isame_10 x y P Q n c m d w _ _ _ hA hS1 hS2 hP1 hP2 hXX hXY hYX
      | true =>
        rw [k1] at hP1
        cases k2 : saneI y with
        | false => rw [k2] at hP2; exact isame_01 x y P Q n c m d w _ _ _ hA hS1 hS2 hP1 hP2 hXX hXY hYX
        | true => rw [k2] at hP2; exact isame_00 x y P Q n c m d w _ _ _ hA hS1 hS2 hP1 hP2 hXX hXY hYX (by simpa using same_bytes ux uy k1 k2)
end Go.Proofs.YtmjimijolfjhmaaDoor.Ins
