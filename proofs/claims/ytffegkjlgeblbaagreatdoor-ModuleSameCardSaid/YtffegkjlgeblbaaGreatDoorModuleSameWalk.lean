/- ModuleSameWalk. -/
import Derived.Test.YtffegkjlgeblbaaGreatDoorPkModWR
import Derived.Test.YtffegkjlgeblbaaGreatDoorPkModPA
import Derived.Test.YtffegkjlgeblbaaGreatDoorModFew
import Derived.Test.YtffegkjlgeblbaaGreatDoorPkInsStab
import Derived.Test.YtffegkjlgeblbaaGreatDoorPkInsPTabs
import Derived.Lib.Bytes
/- ModuleSame walked: a module is itself; two are the same just if their bytes are. -/
namespace Go.Proofs.YtffegkjlgeblbaaGreatDoor.Mdl
open Go.RowKit Ints Typ Ins
set_option maxRecDepth 100000
set_option maxHeartbeats 4000000
set_option linter.unusedVariables false
theorem cells11 {W : World} {b : Nat} {c0 c1 c2 c3 c4 c5 c6 c7 c8 c9 c10 : Value} {t : TypeId} (h : W.heap[b]? = some (.cells #[c0, c1, c2, c3, c4, c5, c6, c7, c8, c9, c10] t (0, 0))) : W.cell? ⟨b, 0, none⟩ = some c0 ∧ W.cell? ⟨b, 1, none⟩ = some c1 ∧ W.cell? ⟨b, 2, none⟩ = some c2 ∧ W.cell? ⟨b, 3, none⟩ = some c3 ∧ W.cell? ⟨b, 4, none⟩ = some c4 ∧ W.cell? ⟨b, 5, none⟩ = some c5 ∧ W.cell? ⟨b, 6, none⟩ = some c6 ∧ W.cell? ⟨b, 7, none⟩ = some c7 ∧ W.cell? ⟨b, 8, none⟩ = some c8 ∧ W.cell? ⟨b, 9, none⟩ = some c9 ∧ W.cell? ⟨b, 10, none⟩ = some c10 :=
  ⟨(Sec.cells_at h 0).1, (Sec.cells_at h 1).1, (Sec.cells_at h 2).1, (Sec.cells_at h 3).1, (Sec.cells_at h 4).1, (Sec.cells_at h 5).1, (Sec.cells_at h 6).1, (Sec.cells_at h 7).1, (Sec.cells_at h 8).1, (Sec.cells_at h 9).1, (Sec.cells_at h 10).1⟩

theorem msame_10 (v0 v1 v2 v3 v4 v5 v6 v8 v9 v10 u0 u1 u2 u3 u4 u5 u6 u8 u9 u10 : Value) (s t : Int) (w : World) (R : Bool) (BX BY : List Int) (FA FB : Prop)
    (hA : ∀ W, Below w.heap.size w W → Calls Tryz.prog 11 #[] W fun e w' => e = .returned (.bool true) ∧ Below W.heap.size W w')
    (hS1 : ∀ W, Below w.heap.size w W → Calls Tryz.prog 15 #[.agg #[v0, v1, v2, v3, v4, v5, v6, .int .i64 s, v8, v9, v10]] W (FewTold FA W))
    (hS2 : ∀ W, Below w.heap.size w W → Calls Tryz.prog 15 #[.agg #[u0, u1, u2, u3, u4, u5, u6, .int .i64 t, u8, u9, u10]] W (FewTold FB W))
    (hP1 : FA → ∀ W, Below w.heap.size w W → Calls Tryz.prog 16 #[.agg #[v0, v1, v2, v3, v4, v5, v6, .int .i64 s, v8, v9, v10]] W (PutTold BX 1 W))
    (hP2 : FB → ∀ W, Below w.heap.size w W → Calls Tryz.prog 16 #[.agg #[u0, u1, u2, u3, u4, u5, u6, .int .i64 t, u8, u9, u10]] W (PutTold BY 0 W))
    (hXX : FA → ∀ W, Below w.heap.size w W → Calls Tryz.prog 22 #[.agg #[v0, v1, v2, v3, v4, v5, v6, .int .i64 s, v8, v9, v10], .agg #[v0, v1, v2, v3, v4, v5, v6, .int .i64 s, v8, v9, v10]] W fun e w' => e = .returned (.bool true) ∧ Below W.heap.size W w')
    (hXY : FA → ∀ W, Below w.heap.size w W → Calls Tryz.prog 22 #[.agg #[v0, v1, v2, v3, v4, v5, v6, .int .i64 s, v8, v9, v10], .agg #[u0, u1, u2, u3, u4, u5, u6, .int .i64 t, u8, u9, u10]] W fun e w' => e = .returned (.bool R) ∧ Below W.heap.size W w')
    (hYX : FB → ∀ W, Below w.heap.size w W → Calls Tryz.prog 22 #[.agg #[u0, u1, u2, u3, u4, u5, u6, .int .i64 t, u8, u9, u10], .agg #[v0, v1, v2, v3, v4, v5, v6, .int .i64 s, v8, v9, v10]] W fun e w' => e = .returned (.bool R) ∧ Below W.heap.size W w')
    : Calls Tryz.prog 9 #[.agg #[v0, v1, v2, v3, v4, v5, v6, .int .i64 s, v8, v9, v10], .agg #[u0, u1, u2, u3, u4, u5, u6, .int .i64 t, u8, u9, u10]] w fun e w' => e = .returned (.bool true) ∧ Below w.heap.size w w' := by
  have HA := Lib.hid hA
  have HS1 := Lib.hid hS1
  have HS2 := Lib.hid hS2
  have HP1 := Lib.hid hP1
  have HP2 := Lib.hid hP2
  have HXX := Lib.hid hXX
  have HXY := Lib.hid hXY
  have HYX := Lib.hid hYX
  clear hA hS1 hS2 hP1 hP2 hXX hXY hYX
  have HW := Lib.hid (((Below.refl w.heap.size w).alloc (Nat.le_refl _) (.cells #[v0, v1, v2, v3, v4, v5, v6, .int .i64 s, v8, v9, v10] 34)).alloc (by simp) (.cells #[u0, u1, u2, u3, u4, u5, u6, .int .i64 t, u8, u9, u10] 34))
  have HX : Hid (((w.alloc (.cells #[v0, v1, v2, v3, v4, v5, v6, .int .i64 s, v8, v9, v10] 34)).alloc (.cells #[u0, u1, u2, u3, u4, u5, u6, .int .i64 t, u8, u9, u10] 34)).heap[w.heap.size]? = some (.cells #[v0, v1, v2, v3, v4, v5, v6, .int .i64 s, v8, v9, v10] 34 (0, 0))) := Lib.hid (bx_keep (Sec.heap_new w _) ((Below.refl _ _).alloc (Nat.le_refl _) _))
  have HYY : Hid (((w.alloc (.cells #[v0, v1, v2, v3, v4, v5, v6, .int .i64 s, v8, v9, v10] 34)).alloc (.cells #[u0, u1, u2, u3, u4, u5, u6, .int .i64 t, u8, u9, u10] 34)).heap[w.heap.size + 1]? = some (.cells #[u0, u1, u2, u3, u4, u5, u6, .int .i64 t, u8, u9, u10] 34 (0, 0))) := Lib.hid (by have := Sec.heap_new (w.alloc (.cells #[v0, v1, v2, v3, v4, v5, v6, .int .i64 s, v8, v9, v10] 34)) (.cells #[u0, u1, u2, u3, u4, u5, u6, .int .i64 t, u8, u9, u10] 34); rw [Sec.size_new1] at this; exact this)
  obtain ⟨q0, q1, q2, q3, q4, q5, q6, q7, q8, q9, q10⟩ := cells11 HX.out
  obtain ⟨r0, r1, r2, r3, r4, r5, r6, r7, r8, r9, r10⟩ := cells11 HYY.out
  go_enter Tryz.func9, Tryz.ntmps9
  go_wp2_with fail
  refine (HA.out _ HW.out).mono ?_
  rintro e w1 ⟨rfl, hb⟩
  have HX := Lib.hid (bx_keep HX.out hb)
  have HYY := Lib.hid (bx_keep HYY.out hb)
  have HW := Lib.hid (HW.out.trans (hb.mono HW.out.size))
  clear hb
  clear q0 q1 q2 q3 q4 q5 q6 q7 q8 q9 q10 r0 r1 r2 r3 r4 r5 r6 r7 r8 r9 r10
  obtain ⟨q0, q1, q2, q3, q4, q5, q6, q7, q8, q9, q10⟩ := cells11 HX.out
  obtain ⟨r0, r1, r2, r3, r4, r5, r6, r7, r8, r9, r10⟩ := cells11 HYY.out
  go_wp2_with fail
  refine (HS1.out _ HW.out).mono ?_
  rintro e w2 ⟨b1, rfl, hf1, hb⟩
  have HX := Lib.hid (bx_keep HX.out hb)
  have HYY := Lib.hid (bx_keep HYY.out hb)
  have HW := Lib.hid (HW.out.trans (hb.mono HW.out.size))
  clear hb
  clear q0 q1 q2 q3 q4 q5 q6 q7 q8 q9 q10 r0 r1 r2 r3 r4 r5 r6 r7 r8 r9 r10
  obtain ⟨q0, q1, q2, q3, q4, q5, q6, q7, q8, q9, q10⟩ := cells11 HX.out
  obtain ⟨r0, r1, r2, r3, r4, r5, r6, r7, r8, r9, r10⟩ := cells11 HYY.out
  cases b1
  case false =>
    go_wp2_with fail
    go_ret
    exact ⟨rfl, HW.out⟩
  have HFA := Lib.hid (hf1 rfl)
  clear hf1
  go_wp2_with fail
  refine (HS2.out _ HW.out).mono ?_
  rintro e w3 ⟨b2, rfl, hf2, hb⟩
  have HX := Lib.hid (bx_keep HX.out hb)
  have HYY := Lib.hid (bx_keep HYY.out hb)
  have HW := Lib.hid (HW.out.trans (hb.mono HW.out.size))
  clear hb
  clear q0 q1 q2 q3 q4 q5 q6 q7 q8 q9 q10 r0 r1 r2 r3 r4 r5 r6 r7 r8 r9 r10
  obtain ⟨q0, q1, q2, q3, q4, q5, q6, q7, q8, q9, q10⟩ := cells11 HX.out
  obtain ⟨r0, r1, r2, r3, r4, r5, r6, r7, r8, r9, r10⟩ := cells11 HYY.out
  cases b2
  case false =>
    go_wp2_with fail
    go_ret
    exact ⟨rfl, HW.out⟩
  have HFB := Lib.hid (hf2 rfl)
  clear hf2
  go_wp2_with fail
  refine ((HP1.out HFA.out) _ HW.out).mono ?_
  rintro e w4 ⟨vx, rfl, hs, hb⟩
  have HX := Lib.hid (bx_keep HX.out hb)
  have HYY := Lib.hid (bx_keep HYY.out hb)
  have HW := Lib.hid (HW.out.trans (hb.mono HW.out.size))
  have HSX := Lib.hid hs
  obtain ⟨AX, cX, rfl, _⟩ := id hs
  clear hs
  clear hb
  clear q0 q1 q2 q3 q4 q5 q6 q7 q8 q9 q10 r0 r1 r2 r3 r4 r5 r6 r7 r8 r9 r10
  obtain ⟨q0, q1, q2, q3, q4, q5, q6, q7, q8, q9, q10⟩ := cells11 HX.out
  obtain ⟨r0, r1, r2, r3, r4, r5, r6, r7, r8, r9, r10⟩ := cells11 HYY.out
  go_wp2_with fail
  refine ((HP2.out HFB.out) _ HW.out).mono ?_
  rintro e w5 ⟨vy, rfl, hs, hb⟩
  have HX := Lib.hid (bx_keep HX.out hb)
  have HYY := Lib.hid (bx_keep HYY.out hb)
  have HSX := Lib.hid (HSX.out.keep hb)
  have HW := Lib.hid (HW.out.trans (hb.mono HW.out.size))
  have HSY := Lib.hid hs
  obtain ⟨AY, cY, rfl, _⟩ := id hs
  clear hs
  clear hb
  clear q0 q1 q2 q3 q4 q5 q6 q7 q8 q9 q10 r0 r1 r2 r3 r4 r5 r6 r7 r8 r9 r10
  obtain ⟨q0, q1, q2, q3, q4, q5, q6, q7, q8, q9, q10⟩ := cells11 HX.out
  obtain ⟨r0, r1, r2, r3, r4, r5, r6, r7, r8, r9, r10⟩ := cells11 HYY.out
  go_wp2_with fail
  refine Stab.region 63 [.is (.agg #[v0, v1, v2, v3, v4, v5, v6, .int .i64 s, v8, v9, v10]), .is (.agg #[v0, v1, v2, v3, v4, v5, v6, .int .i64 s, v8, v9, v10]), .is (.bool true), .is (.bool (!true)), .is (.bool (!true)), .is (.agg #[v0, v1, v2, v3, v4, v5, v6, .int .i64 s, v8, v9, v10]), .is (.agg #[u0, u1, u2, u3, u4, u5, u6, .int .i64 t, u8, u9, u10]), .is (.bool R), .is (.agg #[u0, u1, u2, u3, u4, u5, u6, .int .i64 t, u8, u9, u10]), .is (.agg #[v0, v1, v2, v3, v4, v5, v6, .int .i64 s, v8, v9, v10]), .is (.bool R), .is (.bool false), .is (.bool false)] (by kernel_rfl) (by kernel_rfl) rfl rfl ?_ ?_
  · with_reducible refine Stab.steps_cons ?_ ?_ ?_
    · exact Stab.owes_load rfl (fun v W hb hv => by subst hv; exact run_ldM (bx_keep HX.out hb)) rfl
    · exact trivial
    with_reducible refine Stab.steps_cons ?_ ?_ ?_
    · exact Stab.owes_load rfl (fun v W hb hv => by subst hv; exact run_ldM (bx_keep HX.out hb)) rfl
    · exact trivial
    with_reducible refine Stab.steps_cons ?_ ?_ ?_
    · (refine Stab.owes_call Tryz.func22 (by kernel_rfl) (by kernel_rfl) rfl (fun vs W hb hall => ?_) rfl; obtain ⟨_, _, rfl, rfl, _, _, rfl, rfl, rfl⟩ := hall; refine ((HXX.out HFA.out) W (HW.out.trans (hb.mono HW.out.size))).mono ?_; rintro e w2 ⟨rfl, hb2⟩; exact ⟨_, rfl, hb2, rfl⟩)
    · exact trivial
    with_reducible refine Stab.steps_cons ?_ ?_ ?_
    · exact Stab.owes_not rfl rfl (fun W => Stab.run_not _ W) rfl
    · exact trivial
    with_reducible refine Stab.steps_cons ?_ ?_ ?_
    · exact Stab.owes_move rfl rfl rfl
    · exact trivial
    with_reducible refine Stab.steps_cons ?_ ?_ ?_
    · exact Stab.owes_load rfl (fun v W hb hv => by subst hv; exact run_ldM (bx_keep HX.out hb)) rfl
    · exact trivial
    with_reducible refine Stab.steps_cons ?_ ?_ ?_
    · exact Stab.owes_load rfl (fun v W hb hv => by subst hv; exact run_ldM (bx_keep HYY.out hb)) rfl
    · exact trivial
    with_reducible refine Stab.steps_cons ?_ ?_ ?_
    · (refine Stab.owes_call Tryz.func22 (by kernel_rfl) (by kernel_rfl) rfl (fun vs W hb hall => ?_) rfl; obtain ⟨_, _, rfl, rfl, _, _, rfl, rfl, rfl⟩ := hall; refine ((HXY.out HFA.out) W (HW.out.trans (hb.mono HW.out.size))).mono ?_; rintro e w2 ⟨rfl, hb2⟩; exact ⟨_, rfl, hb2, rfl⟩)
    · exact trivial
    with_reducible refine Stab.steps_cons ?_ ?_ ?_
    · exact Stab.owes_load rfl (fun v W hb hv => by subst hv; exact run_ldM (bx_keep HYY.out hb)) rfl
    · exact trivial
    with_reducible refine Stab.steps_cons ?_ ?_ ?_
    · exact Stab.owes_load rfl (fun v W hb hv => by subst hv; exact run_ldM (bx_keep HX.out hb)) rfl
    · exact trivial
    with_reducible refine Stab.steps_cons ?_ ?_ ?_
    · (refine Stab.owes_call Tryz.func22 (by kernel_rfl) (by kernel_rfl) rfl (fun vs W hb hall => ?_) rfl; obtain ⟨_, _, rfl, rfl, _, _, rfl, rfl, rfl⟩ := hall; refine ((HYX.out HFB.out) W (HW.out.trans (hb.mono HW.out.size))).mono ?_; rintro e w2 ⟨rfl, hb2⟩; exact ⟨_, rfl, hb2, rfl⟩)
    · exact trivial
    with_reducible refine Stab.steps_cons ?_ ?_ ?_
    · exact Stab.owes_bin rfl rfl rfl (fun W => Stab.run_neB _ _ R R false (by cases R <;> rfl) W) rfl
    · exact trivial
    with_reducible refine Stab.steps_cons ?_ ?_ ?_
    · exact Stab.owes_pick rfl rfl rfl rfl
    · exact trivial
    exact Stab.steps_nil
  · intro W hb _
    simp only [Act.put, List.setIfInBounds_toArray, List.set_cons_succ, List.set_cons_zero]
    have HX := Lib.hid (bx_keep HX.out hb)
    have HYY := Lib.hid (bx_keep HYY.out hb)
    have HSX := Lib.hid (HSX.out.keep hb)
    have HSY := Lib.hid (HSY.out.keep hb)
    have HW := Lib.hid (HW.out.trans (hb.mono HW.out.size))
    clear hb q0 q1 q2 q3 q4 q5 q6 q7 q8 q9 q10 r0 r1 r2 r3 r4 r5 r6 r7 r8 r9 r10
    go_wp2_with fail
    refine Stab.region 63 [.is (.bool true), .is (.bool true), .is (.int .i64 1), .is (.bool true), .is (.bool true), .is undef, .is undef, .is (.bool true), .is (.bool true), .is undef, .is undef, .is undef, .is undef, .is undef, .is undef, .is undef, .is undef, .is undef, .is (.bool true), .is (.bool true), .is (.bool true)] (by kernel_rfl) (by kernel_rfl) rfl rfl ?_ ?_
    · with_reducible refine Stab.steps_cons ?_ ?_ ?_
      · exact Stab.owes_move rfl rfl rfl
      · exact trivial
      with_reducible refine Stab.steps_cons ?_ ?_ ?_
      · exact Stab.owes_move rfl rfl rfl
      · exact trivial
      with_reducible refine Stab.steps_cons ?_ ?_ ?_
      · exact Stab.owes_move rfl rfl rfl
      · exact trivial
      with_reducible refine Stab.steps_cons ?_ ?_ ?_
      · exact Stab.owes_bin rfl rfl rfl (fun W => Stab.run_neE _ _ 1 0 true rfl W) rfl
      · exact trivial
      with_reducible refine Stab.steps_cons ?_ ?_ ?_
      · exact Stab.owes_move rfl rfl rfl
      · exact trivial
      with_reducible refine Stab.steps_cons ?_ ?_ ?_
      · exact Stab.owes_off rfl
      · exact trivial
      with_reducible refine Stab.steps_cons ?_ ?_ ?_
      · exact Stab.owes_off rfl
      · exact trivial
      with_reducible refine Stab.steps_cons ?_ ?_ ?_
      · exact Stab.owes_pick rfl rfl rfl rfl
      · exact trivial
      with_reducible refine Stab.steps_cons ?_ ?_ ?_
      · exact Stab.owes_move rfl rfl rfl
      · exact trivial
      with_reducible refine Stab.steps_cons ?_ ?_ ?_
      · exact Stab.owes_off rfl
      · exact trivial
      with_reducible refine Stab.steps_cons ?_ ?_ ?_
      · exact Stab.owes_off rfl
      · exact trivial
      with_reducible refine Stab.steps_cons ?_ ?_ ?_
      · exact Stab.owes_off rfl
      · exact trivial
      with_reducible refine Stab.steps_cons ?_ ?_ ?_
      · exact Stab.owes_off rfl
      · exact trivial
      with_reducible refine Stab.steps_cons ?_ ?_ ?_
      · exact Stab.owes_off rfl
      · exact trivial
      with_reducible refine Stab.steps_cons ?_ ?_ ?_
      · exact Stab.owes_off rfl
      · exact trivial
      with_reducible refine Stab.steps_cons ?_ ?_ ?_
      · exact Stab.owes_off rfl
      · exact trivial
      with_reducible refine Stab.steps_cons ?_ ?_ ?_
      · exact Stab.owes_off rfl
      · exact trivial
      with_reducible refine Stab.steps_cons ?_ ?_ ?_
      · exact Stab.owes_off rfl
      · exact trivial
      with_reducible refine Stab.steps_cons ?_ ?_ ?_
      · exact Stab.owes_pick rfl rfl rfl rfl
      · exact trivial
      with_reducible refine Stab.steps_cons ?_ ?_ ?_
      · exact Stab.owes_pick rfl rfl rfl rfl
      · exact trivial
      with_reducible refine Stab.steps_cons ?_ ?_ ?_
      · exact Stab.owes_assign rfl rfl rfl
      · exact trivial
      exact Stab.steps_nil
    · intro W hb _
      simp only [Act.put, List.setIfInBounds_toArray, List.set_cons_succ, List.set_cons_zero]
      have HW := Lib.hid (HW.out.trans (hb.mono HW.out.size))
      go_wp2_with fail
      go_ret
      exact ⟨rfl, HW.out⟩
theorem msame_11 (v0 v1 v2 v3 v4 v5 v6 v8 v9 v10 u0 u1 u2 u3 u4 u5 u6 u8 u9 u10 : Value) (s t : Int) (w : World) (R : Bool) (BX BY : List Int) (FA FB : Prop)
    (hA : ∀ W, Below w.heap.size w W → Calls Tryz.prog 11 #[] W fun e w' => e = .returned (.bool true) ∧ Below W.heap.size W w')
    (hS1 : ∀ W, Below w.heap.size w W → Calls Tryz.prog 15 #[.agg #[v0, v1, v2, v3, v4, v5, v6, .int .i64 s, v8, v9, v10]] W (FewTold FA W))
    (hS2 : ∀ W, Below w.heap.size w W → Calls Tryz.prog 15 #[.agg #[u0, u1, u2, u3, u4, u5, u6, .int .i64 t, u8, u9, u10]] W (FewTold FB W))
    (hP1 : FA → ∀ W, Below w.heap.size w W → Calls Tryz.prog 16 #[.agg #[v0, v1, v2, v3, v4, v5, v6, .int .i64 s, v8, v9, v10]] W (PutTold BX 1 W))
    (hP2 : FB → ∀ W, Below w.heap.size w W → Calls Tryz.prog 16 #[.agg #[u0, u1, u2, u3, u4, u5, u6, .int .i64 t, u8, u9, u10]] W (PutTold BY 1 W))
    (hXX : FA → ∀ W, Below w.heap.size w W → Calls Tryz.prog 22 #[.agg #[v0, v1, v2, v3, v4, v5, v6, .int .i64 s, v8, v9, v10], .agg #[v0, v1, v2, v3, v4, v5, v6, .int .i64 s, v8, v9, v10]] W fun e w' => e = .returned (.bool true) ∧ Below W.heap.size W w')
    (hXY : FA → ∀ W, Below w.heap.size w W → Calls Tryz.prog 22 #[.agg #[v0, v1, v2, v3, v4, v5, v6, .int .i64 s, v8, v9, v10], .agg #[u0, u1, u2, u3, u4, u5, u6, .int .i64 t, u8, u9, u10]] W fun e w' => e = .returned (.bool R) ∧ Below W.heap.size W w')
    (hYX : FB → ∀ W, Below w.heap.size w W → Calls Tryz.prog 22 #[.agg #[u0, u1, u2, u3, u4, u5, u6, .int .i64 t, u8, u9, u10], .agg #[v0, v1, v2, v3, v4, v5, v6, .int .i64 s, v8, v9, v10]] W fun e w' => e = .returned (.bool R) ∧ Below W.heap.size W w')
    : Calls Tryz.prog 9 #[.agg #[v0, v1, v2, v3, v4, v5, v6, .int .i64 s, v8, v9, v10], .agg #[u0, u1, u2, u3, u4, u5, u6, .int .i64 t, u8, u9, u10]] w fun e w' => e = .returned (.bool true) ∧ Below w.heap.size w w' := by
  have HA := Lib.hid hA
  have HS1 := Lib.hid hS1
  have HS2 := Lib.hid hS2
  have HP1 := Lib.hid hP1
  have HP2 := Lib.hid hP2
  have HXX := Lib.hid hXX
  have HXY := Lib.hid hXY
  have HYX := Lib.hid hYX
  clear hA hS1 hS2 hP1 hP2 hXX hXY hYX
  have HW := Lib.hid (((Below.refl w.heap.size w).alloc (Nat.le_refl _) (.cells #[v0, v1, v2, v3, v4, v5, v6, .int .i64 s, v8, v9, v10] 34)).alloc (by simp) (.cells #[u0, u1, u2, u3, u4, u5, u6, .int .i64 t, u8, u9, u10] 34))
  have HX : Hid (((w.alloc (.cells #[v0, v1, v2, v3, v4, v5, v6, .int .i64 s, v8, v9, v10] 34)).alloc (.cells #[u0, u1, u2, u3, u4, u5, u6, .int .i64 t, u8, u9, u10] 34)).heap[w.heap.size]? = some (.cells #[v0, v1, v2, v3, v4, v5, v6, .int .i64 s, v8, v9, v10] 34 (0, 0))) := Lib.hid (bx_keep (Sec.heap_new w _) ((Below.refl _ _).alloc (Nat.le_refl _) _))
  have HYY : Hid (((w.alloc (.cells #[v0, v1, v2, v3, v4, v5, v6, .int .i64 s, v8, v9, v10] 34)).alloc (.cells #[u0, u1, u2, u3, u4, u5, u6, .int .i64 t, u8, u9, u10] 34)).heap[w.heap.size + 1]? = some (.cells #[u0, u1, u2, u3, u4, u5, u6, .int .i64 t, u8, u9, u10] 34 (0, 0))) := Lib.hid (by have := Sec.heap_new (w.alloc (.cells #[v0, v1, v2, v3, v4, v5, v6, .int .i64 s, v8, v9, v10] 34)) (.cells #[u0, u1, u2, u3, u4, u5, u6, .int .i64 t, u8, u9, u10] 34); rw [Sec.size_new1] at this; exact this)
  obtain ⟨q0, q1, q2, q3, q4, q5, q6, q7, q8, q9, q10⟩ := cells11 HX.out
  obtain ⟨r0, r1, r2, r3, r4, r5, r6, r7, r8, r9, r10⟩ := cells11 HYY.out
  go_enter Tryz.func9, Tryz.ntmps9
  go_wp2_with fail
  refine (HA.out _ HW.out).mono ?_
  rintro e w1 ⟨rfl, hb⟩
  have HX := Lib.hid (bx_keep HX.out hb)
  have HYY := Lib.hid (bx_keep HYY.out hb)
  have HW := Lib.hid (HW.out.trans (hb.mono HW.out.size))
  clear hb
  clear q0 q1 q2 q3 q4 q5 q6 q7 q8 q9 q10 r0 r1 r2 r3 r4 r5 r6 r7 r8 r9 r10
  obtain ⟨q0, q1, q2, q3, q4, q5, q6, q7, q8, q9, q10⟩ := cells11 HX.out
  obtain ⟨r0, r1, r2, r3, r4, r5, r6, r7, r8, r9, r10⟩ := cells11 HYY.out
  go_wp2_with fail
  refine (HS1.out _ HW.out).mono ?_
  rintro e w2 ⟨b1, rfl, hf1, hb⟩
  have HX := Lib.hid (bx_keep HX.out hb)
  have HYY := Lib.hid (bx_keep HYY.out hb)
  have HW := Lib.hid (HW.out.trans (hb.mono HW.out.size))
  clear hb
  clear q0 q1 q2 q3 q4 q5 q6 q7 q8 q9 q10 r0 r1 r2 r3 r4 r5 r6 r7 r8 r9 r10
  obtain ⟨q0, q1, q2, q3, q4, q5, q6, q7, q8, q9, q10⟩ := cells11 HX.out
  obtain ⟨r0, r1, r2, r3, r4, r5, r6, r7, r8, r9, r10⟩ := cells11 HYY.out
  cases b1
  case false =>
    go_wp2_with fail
    go_ret
    exact ⟨rfl, HW.out⟩
  have HFA := Lib.hid (hf1 rfl)
  clear hf1
  go_wp2_with fail
  refine (HS2.out _ HW.out).mono ?_
  rintro e w3 ⟨b2, rfl, hf2, hb⟩
  have HX := Lib.hid (bx_keep HX.out hb)
  have HYY := Lib.hid (bx_keep HYY.out hb)
  have HW := Lib.hid (HW.out.trans (hb.mono HW.out.size))
  clear hb
  clear q0 q1 q2 q3 q4 q5 q6 q7 q8 q9 q10 r0 r1 r2 r3 r4 r5 r6 r7 r8 r9 r10
  obtain ⟨q0, q1, q2, q3, q4, q5, q6, q7, q8, q9, q10⟩ := cells11 HX.out
  obtain ⟨r0, r1, r2, r3, r4, r5, r6, r7, r8, r9, r10⟩ := cells11 HYY.out
  cases b2
  case false =>
    go_wp2_with fail
    go_ret
    exact ⟨rfl, HW.out⟩
  have HFB := Lib.hid (hf2 rfl)
  clear hf2
  go_wp2_with fail
  refine ((HP1.out HFA.out) _ HW.out).mono ?_
  rintro e w4 ⟨vx, rfl, hs, hb⟩
  have HX := Lib.hid (bx_keep HX.out hb)
  have HYY := Lib.hid (bx_keep HYY.out hb)
  have HW := Lib.hid (HW.out.trans (hb.mono HW.out.size))
  have HSX := Lib.hid hs
  obtain ⟨AX, cX, rfl, _⟩ := id hs
  clear hs
  clear hb
  clear q0 q1 q2 q3 q4 q5 q6 q7 q8 q9 q10 r0 r1 r2 r3 r4 r5 r6 r7 r8 r9 r10
  obtain ⟨q0, q1, q2, q3, q4, q5, q6, q7, q8, q9, q10⟩ := cells11 HX.out
  obtain ⟨r0, r1, r2, r3, r4, r5, r6, r7, r8, r9, r10⟩ := cells11 HYY.out
  go_wp2_with fail
  refine ((HP2.out HFB.out) _ HW.out).mono ?_
  rintro e w5 ⟨vy, rfl, hs, hb⟩
  have HX := Lib.hid (bx_keep HX.out hb)
  have HYY := Lib.hid (bx_keep HYY.out hb)
  have HSX := Lib.hid (HSX.out.keep hb)
  have HW := Lib.hid (HW.out.trans (hb.mono HW.out.size))
  have HSY := Lib.hid hs
  obtain ⟨AY, cY, rfl, _⟩ := id hs
  clear hs
  clear hb
  clear q0 q1 q2 q3 q4 q5 q6 q7 q8 q9 q10 r0 r1 r2 r3 r4 r5 r6 r7 r8 r9 r10
  obtain ⟨q0, q1, q2, q3, q4, q5, q6, q7, q8, q9, q10⟩ := cells11 HX.out
  obtain ⟨r0, r1, r2, r3, r4, r5, r6, r7, r8, r9, r10⟩ := cells11 HYY.out
  go_wp2_with fail
  refine Stab.region 63 [.is (.agg #[v0, v1, v2, v3, v4, v5, v6, .int .i64 s, v8, v9, v10]), .is (.agg #[v0, v1, v2, v3, v4, v5, v6, .int .i64 s, v8, v9, v10]), .is (.bool true), .is (.bool (!true)), .is (.bool (!true)), .is (.agg #[v0, v1, v2, v3, v4, v5, v6, .int .i64 s, v8, v9, v10]), .is (.agg #[u0, u1, u2, u3, u4, u5, u6, .int .i64 t, u8, u9, u10]), .is (.bool R), .is (.agg #[u0, u1, u2, u3, u4, u5, u6, .int .i64 t, u8, u9, u10]), .is (.agg #[v0, v1, v2, v3, v4, v5, v6, .int .i64 s, v8, v9, v10]), .is (.bool R), .is (.bool false), .is (.bool false)] (by kernel_rfl) (by kernel_rfl) rfl rfl ?_ ?_
  · with_reducible refine Stab.steps_cons ?_ ?_ ?_
    · exact Stab.owes_load rfl (fun v W hb hv => by subst hv; exact run_ldM (bx_keep HX.out hb)) rfl
    · exact trivial
    with_reducible refine Stab.steps_cons ?_ ?_ ?_
    · exact Stab.owes_load rfl (fun v W hb hv => by subst hv; exact run_ldM (bx_keep HX.out hb)) rfl
    · exact trivial
    with_reducible refine Stab.steps_cons ?_ ?_ ?_
    · (refine Stab.owes_call Tryz.func22 (by kernel_rfl) (by kernel_rfl) rfl (fun vs W hb hall => ?_) rfl; obtain ⟨_, _, rfl, rfl, _, _, rfl, rfl, rfl⟩ := hall; refine ((HXX.out HFA.out) W (HW.out.trans (hb.mono HW.out.size))).mono ?_; rintro e w2 ⟨rfl, hb2⟩; exact ⟨_, rfl, hb2, rfl⟩)
    · exact trivial
    with_reducible refine Stab.steps_cons ?_ ?_ ?_
    · exact Stab.owes_not rfl rfl (fun W => Stab.run_not _ W) rfl
    · exact trivial
    with_reducible refine Stab.steps_cons ?_ ?_ ?_
    · exact Stab.owes_move rfl rfl rfl
    · exact trivial
    with_reducible refine Stab.steps_cons ?_ ?_ ?_
    · exact Stab.owes_load rfl (fun v W hb hv => by subst hv; exact run_ldM (bx_keep HX.out hb)) rfl
    · exact trivial
    with_reducible refine Stab.steps_cons ?_ ?_ ?_
    · exact Stab.owes_load rfl (fun v W hb hv => by subst hv; exact run_ldM (bx_keep HYY.out hb)) rfl
    · exact trivial
    with_reducible refine Stab.steps_cons ?_ ?_ ?_
    · (refine Stab.owes_call Tryz.func22 (by kernel_rfl) (by kernel_rfl) rfl (fun vs W hb hall => ?_) rfl; obtain ⟨_, _, rfl, rfl, _, _, rfl, rfl, rfl⟩ := hall; refine ((HXY.out HFA.out) W (HW.out.trans (hb.mono HW.out.size))).mono ?_; rintro e w2 ⟨rfl, hb2⟩; exact ⟨_, rfl, hb2, rfl⟩)
    · exact trivial
    with_reducible refine Stab.steps_cons ?_ ?_ ?_
    · exact Stab.owes_load rfl (fun v W hb hv => by subst hv; exact run_ldM (bx_keep HYY.out hb)) rfl
    · exact trivial
    with_reducible refine Stab.steps_cons ?_ ?_ ?_
    · exact Stab.owes_load rfl (fun v W hb hv => by subst hv; exact run_ldM (bx_keep HX.out hb)) rfl
    · exact trivial
    with_reducible refine Stab.steps_cons ?_ ?_ ?_
    · (refine Stab.owes_call Tryz.func22 (by kernel_rfl) (by kernel_rfl) rfl (fun vs W hb hall => ?_) rfl; obtain ⟨_, _, rfl, rfl, _, _, rfl, rfl, rfl⟩ := hall; refine ((HYX.out HFB.out) W (HW.out.trans (hb.mono HW.out.size))).mono ?_; rintro e w2 ⟨rfl, hb2⟩; exact ⟨_, rfl, hb2, rfl⟩)
    · exact trivial
    with_reducible refine Stab.steps_cons ?_ ?_ ?_
    · exact Stab.owes_bin rfl rfl rfl (fun W => Stab.run_neB _ _ R R false (by cases R <;> rfl) W) rfl
    · exact trivial
    with_reducible refine Stab.steps_cons ?_ ?_ ?_
    · exact Stab.owes_pick rfl rfl rfl rfl
    · exact trivial
    exact Stab.steps_nil
  · intro W hb _
    simp only [Act.put, List.setIfInBounds_toArray, List.set_cons_succ, List.set_cons_zero]
    have HX := Lib.hid (bx_keep HX.out hb)
    have HYY := Lib.hid (bx_keep HYY.out hb)
    have HSX := Lib.hid (HSX.out.keep hb)
    have HSY := Lib.hid (HSY.out.keep hb)
    have HW := Lib.hid (HW.out.trans (hb.mono HW.out.size))
    clear hb q0 q1 q2 q3 q4 q5 q6 q7 q8 q9 q10 r0 r1 r2 r3 r4 r5 r6 r7 r8 r9 r10
    go_wp2_with fail
    refine Stab.region 63 [.is (.bool true), .is (.bool true), .is (.int .i64 1), .is (.bool true), .is (.bool true), .is undef, .is undef, .is (.bool true), .is (.bool true), .is undef, .is undef, .is undef, .is undef, .is undef, .is undef, .is undef, .is undef, .is undef, .is (.bool true), .is (.bool true), .is (.bool true)] (by kernel_rfl) (by kernel_rfl) rfl rfl ?_ ?_
    · with_reducible refine Stab.steps_cons ?_ ?_ ?_
      · exact Stab.owes_move rfl rfl rfl
      · exact trivial
      with_reducible refine Stab.steps_cons ?_ ?_ ?_
      · exact Stab.owes_move rfl rfl rfl
      · exact trivial
      with_reducible refine Stab.steps_cons ?_ ?_ ?_
      · exact Stab.owes_move rfl rfl rfl
      · exact trivial
      with_reducible refine Stab.steps_cons ?_ ?_ ?_
      · exact Stab.owes_bin rfl rfl rfl (fun W => Stab.run_neE _ _ 1 0 true rfl W) rfl
      · exact trivial
      with_reducible refine Stab.steps_cons ?_ ?_ ?_
      · exact Stab.owes_move rfl rfl rfl
      · exact trivial
      with_reducible refine Stab.steps_cons ?_ ?_ ?_
      · exact Stab.owes_off rfl
      · exact trivial
      with_reducible refine Stab.steps_cons ?_ ?_ ?_
      · exact Stab.owes_off rfl
      · exact trivial
      with_reducible refine Stab.steps_cons ?_ ?_ ?_
      · exact Stab.owes_pick rfl rfl rfl rfl
      · exact trivial
      with_reducible refine Stab.steps_cons ?_ ?_ ?_
      · exact Stab.owes_move rfl rfl rfl
      · exact trivial
      with_reducible refine Stab.steps_cons ?_ ?_ ?_
      · exact Stab.owes_off rfl
      · exact trivial
      with_reducible refine Stab.steps_cons ?_ ?_ ?_
      · exact Stab.owes_off rfl
      · exact trivial
      with_reducible refine Stab.steps_cons ?_ ?_ ?_
      · exact Stab.owes_off rfl
      · exact trivial
      with_reducible refine Stab.steps_cons ?_ ?_ ?_
      · exact Stab.owes_off rfl
      · exact trivial
      with_reducible refine Stab.steps_cons ?_ ?_ ?_
      · exact Stab.owes_off rfl
      · exact trivial
      with_reducible refine Stab.steps_cons ?_ ?_ ?_
      · exact Stab.owes_off rfl
      · exact trivial
      with_reducible refine Stab.steps_cons ?_ ?_ ?_
      · exact Stab.owes_off rfl
      · exact trivial
      with_reducible refine Stab.steps_cons ?_ ?_ ?_
      · exact Stab.owes_off rfl
      · exact trivial
      with_reducible refine Stab.steps_cons ?_ ?_ ?_
      · exact Stab.owes_off rfl
      · exact trivial
      with_reducible refine Stab.steps_cons ?_ ?_ ?_
      · exact Stab.owes_pick rfl rfl rfl rfl
      · exact trivial
      with_reducible refine Stab.steps_cons ?_ ?_ ?_
      · exact Stab.owes_pick rfl rfl rfl rfl
      · exact trivial
      with_reducible refine Stab.steps_cons ?_ ?_ ?_
      · exact Stab.owes_assign rfl rfl rfl
      · exact trivial
      exact Stab.steps_nil
    · intro W hb _
      simp only [Act.put, List.setIfInBounds_toArray, List.set_cons_succ, List.set_cons_zero]
      have HW := Lib.hid (HW.out.trans (hb.mono HW.out.size))
      go_wp2_with fail
      go_ret
      exact ⟨rfl, HW.out⟩
theorem msame_01 (v0 v1 v2 v3 v4 v5 v6 v8 v9 v10 u0 u1 u2 u3 u4 u5 u6 u8 u9 u10 : Value) (s t : Int) (w : World) (R : Bool) (BX BY : List Int) (FA FB : Prop)
    (hA : ∀ W, Below w.heap.size w W → Calls Tryz.prog 11 #[] W fun e w' => e = .returned (.bool true) ∧ Below W.heap.size W w')
    (hS1 : ∀ W, Below w.heap.size w W → Calls Tryz.prog 15 #[.agg #[v0, v1, v2, v3, v4, v5, v6, .int .i64 s, v8, v9, v10]] W (FewTold FA W))
    (hS2 : ∀ W, Below w.heap.size w W → Calls Tryz.prog 15 #[.agg #[u0, u1, u2, u3, u4, u5, u6, .int .i64 t, u8, u9, u10]] W (FewTold FB W))
    (hP1 : FA → ∀ W, Below w.heap.size w W → Calls Tryz.prog 16 #[.agg #[v0, v1, v2, v3, v4, v5, v6, .int .i64 s, v8, v9, v10]] W (PutTold BX 0 W))
    (hP2 : FB → ∀ W, Below w.heap.size w W → Calls Tryz.prog 16 #[.agg #[u0, u1, u2, u3, u4, u5, u6, .int .i64 t, u8, u9, u10]] W (PutTold BY 1 W))
    (hXX : FA → ∀ W, Below w.heap.size w W → Calls Tryz.prog 22 #[.agg #[v0, v1, v2, v3, v4, v5, v6, .int .i64 s, v8, v9, v10], .agg #[v0, v1, v2, v3, v4, v5, v6, .int .i64 s, v8, v9, v10]] W fun e w' => e = .returned (.bool true) ∧ Below W.heap.size W w')
    (hXY : FA → ∀ W, Below w.heap.size w W → Calls Tryz.prog 22 #[.agg #[v0, v1, v2, v3, v4, v5, v6, .int .i64 s, v8, v9, v10], .agg #[u0, u1, u2, u3, u4, u5, u6, .int .i64 t, u8, u9, u10]] W fun e w' => e = .returned (.bool R) ∧ Below W.heap.size W w')
    (hYX : FB → ∀ W, Below w.heap.size w W → Calls Tryz.prog 22 #[.agg #[u0, u1, u2, u3, u4, u5, u6, .int .i64 t, u8, u9, u10], .agg #[v0, v1, v2, v3, v4, v5, v6, .int .i64 s, v8, v9, v10]] W fun e w' => e = .returned (.bool R) ∧ Below W.heap.size W w')
    : Calls Tryz.prog 9 #[.agg #[v0, v1, v2, v3, v4, v5, v6, .int .i64 s, v8, v9, v10], .agg #[u0, u1, u2, u3, u4, u5, u6, .int .i64 t, u8, u9, u10]] w fun e w' => e = .returned (.bool true) ∧ Below w.heap.size w w' := by
  have HA := Lib.hid hA
  have HS1 := Lib.hid hS1
  have HS2 := Lib.hid hS2
  have HP1 := Lib.hid hP1
  have HP2 := Lib.hid hP2
  have HXX := Lib.hid hXX
  have HXY := Lib.hid hXY
  have HYX := Lib.hid hYX
  clear hA hS1 hS2 hP1 hP2 hXX hXY hYX
  have HW := Lib.hid (((Below.refl w.heap.size w).alloc (Nat.le_refl _) (.cells #[v0, v1, v2, v3, v4, v5, v6, .int .i64 s, v8, v9, v10] 34)).alloc (by simp) (.cells #[u0, u1, u2, u3, u4, u5, u6, .int .i64 t, u8, u9, u10] 34))
  have HX : Hid (((w.alloc (.cells #[v0, v1, v2, v3, v4, v5, v6, .int .i64 s, v8, v9, v10] 34)).alloc (.cells #[u0, u1, u2, u3, u4, u5, u6, .int .i64 t, u8, u9, u10] 34)).heap[w.heap.size]? = some (.cells #[v0, v1, v2, v3, v4, v5, v6, .int .i64 s, v8, v9, v10] 34 (0, 0))) := Lib.hid (bx_keep (Sec.heap_new w _) ((Below.refl _ _).alloc (Nat.le_refl _) _))
  have HYY : Hid (((w.alloc (.cells #[v0, v1, v2, v3, v4, v5, v6, .int .i64 s, v8, v9, v10] 34)).alloc (.cells #[u0, u1, u2, u3, u4, u5, u6, .int .i64 t, u8, u9, u10] 34)).heap[w.heap.size + 1]? = some (.cells #[u0, u1, u2, u3, u4, u5, u6, .int .i64 t, u8, u9, u10] 34 (0, 0))) := Lib.hid (by have := Sec.heap_new (w.alloc (.cells #[v0, v1, v2, v3, v4, v5, v6, .int .i64 s, v8, v9, v10] 34)) (.cells #[u0, u1, u2, u3, u4, u5, u6, .int .i64 t, u8, u9, u10] 34); rw [Sec.size_new1] at this; exact this)
  obtain ⟨q0, q1, q2, q3, q4, q5, q6, q7, q8, q9, q10⟩ := cells11 HX.out
  obtain ⟨r0, r1, r2, r3, r4, r5, r6, r7, r8, r9, r10⟩ := cells11 HYY.out
  go_enter Tryz.func9, Tryz.ntmps9
  go_wp2_with fail
  refine (HA.out _ HW.out).mono ?_
  rintro e w1 ⟨rfl, hb⟩
  have HX := Lib.hid (bx_keep HX.out hb)
  have HYY := Lib.hid (bx_keep HYY.out hb)
  have HW := Lib.hid (HW.out.trans (hb.mono HW.out.size))
  clear hb
  clear q0 q1 q2 q3 q4 q5 q6 q7 q8 q9 q10 r0 r1 r2 r3 r4 r5 r6 r7 r8 r9 r10
  obtain ⟨q0, q1, q2, q3, q4, q5, q6, q7, q8, q9, q10⟩ := cells11 HX.out
  obtain ⟨r0, r1, r2, r3, r4, r5, r6, r7, r8, r9, r10⟩ := cells11 HYY.out
  go_wp2_with fail
  refine (HS1.out _ HW.out).mono ?_
  rintro e w2 ⟨b1, rfl, hf1, hb⟩
  have HX := Lib.hid (bx_keep HX.out hb)
  have HYY := Lib.hid (bx_keep HYY.out hb)
  have HW := Lib.hid (HW.out.trans (hb.mono HW.out.size))
  clear hb
  clear q0 q1 q2 q3 q4 q5 q6 q7 q8 q9 q10 r0 r1 r2 r3 r4 r5 r6 r7 r8 r9 r10
  obtain ⟨q0, q1, q2, q3, q4, q5, q6, q7, q8, q9, q10⟩ := cells11 HX.out
  obtain ⟨r0, r1, r2, r3, r4, r5, r6, r7, r8, r9, r10⟩ := cells11 HYY.out
  cases b1
  case false =>
    go_wp2_with fail
    go_ret
    exact ⟨rfl, HW.out⟩
  have HFA := Lib.hid (hf1 rfl)
  clear hf1
  go_wp2_with fail
  refine (HS2.out _ HW.out).mono ?_
  rintro e w3 ⟨b2, rfl, hf2, hb⟩
  have HX := Lib.hid (bx_keep HX.out hb)
  have HYY := Lib.hid (bx_keep HYY.out hb)
  have HW := Lib.hid (HW.out.trans (hb.mono HW.out.size))
  clear hb
  clear q0 q1 q2 q3 q4 q5 q6 q7 q8 q9 q10 r0 r1 r2 r3 r4 r5 r6 r7 r8 r9 r10
  obtain ⟨q0, q1, q2, q3, q4, q5, q6, q7, q8, q9, q10⟩ := cells11 HX.out
  obtain ⟨r0, r1, r2, r3, r4, r5, r6, r7, r8, r9, r10⟩ := cells11 HYY.out
  cases b2
  case false =>
    go_wp2_with fail
    go_ret
    exact ⟨rfl, HW.out⟩
  have HFB := Lib.hid (hf2 rfl)
  clear hf2
  go_wp2_with fail
  refine ((HP1.out HFA.out) _ HW.out).mono ?_
  rintro e w4 ⟨vx, rfl, hs, hb⟩
  have HX := Lib.hid (bx_keep HX.out hb)
  have HYY := Lib.hid (bx_keep HYY.out hb)
  have HW := Lib.hid (HW.out.trans (hb.mono HW.out.size))
  have HSX := Lib.hid hs
  obtain ⟨AX, cX, rfl, _⟩ := id hs
  clear hs
  clear hb
  clear q0 q1 q2 q3 q4 q5 q6 q7 q8 q9 q10 r0 r1 r2 r3 r4 r5 r6 r7 r8 r9 r10
  obtain ⟨q0, q1, q2, q3, q4, q5, q6, q7, q8, q9, q10⟩ := cells11 HX.out
  obtain ⟨r0, r1, r2, r3, r4, r5, r6, r7, r8, r9, r10⟩ := cells11 HYY.out
  go_wp2_with fail
  refine ((HP2.out HFB.out) _ HW.out).mono ?_
  rintro e w5 ⟨vy, rfl, hs, hb⟩
  have HX := Lib.hid (bx_keep HX.out hb)
  have HYY := Lib.hid (bx_keep HYY.out hb)
  have HSX := Lib.hid (HSX.out.keep hb)
  have HW := Lib.hid (HW.out.trans (hb.mono HW.out.size))
  have HSY := Lib.hid hs
  obtain ⟨AY, cY, rfl, _⟩ := id hs
  clear hs
  clear hb
  clear q0 q1 q2 q3 q4 q5 q6 q7 q8 q9 q10 r0 r1 r2 r3 r4 r5 r6 r7 r8 r9 r10
  obtain ⟨q0, q1, q2, q3, q4, q5, q6, q7, q8, q9, q10⟩ := cells11 HX.out
  obtain ⟨r0, r1, r2, r3, r4, r5, r6, r7, r8, r9, r10⟩ := cells11 HYY.out
  go_wp2_with fail
  refine Stab.region 63 [.is (.agg #[v0, v1, v2, v3, v4, v5, v6, .int .i64 s, v8, v9, v10]), .is (.agg #[v0, v1, v2, v3, v4, v5, v6, .int .i64 s, v8, v9, v10]), .is (.bool true), .is (.bool (!true)), .is (.bool (!true)), .is (.agg #[v0, v1, v2, v3, v4, v5, v6, .int .i64 s, v8, v9, v10]), .is (.agg #[u0, u1, u2, u3, u4, u5, u6, .int .i64 t, u8, u9, u10]), .is (.bool R), .is (.agg #[u0, u1, u2, u3, u4, u5, u6, .int .i64 t, u8, u9, u10]), .is (.agg #[v0, v1, v2, v3, v4, v5, v6, .int .i64 s, v8, v9, v10]), .is (.bool R), .is (.bool false), .is (.bool false)] (by kernel_rfl) (by kernel_rfl) rfl rfl ?_ ?_
  · with_reducible refine Stab.steps_cons ?_ ?_ ?_
    · exact Stab.owes_load rfl (fun v W hb hv => by subst hv; exact run_ldM (bx_keep HX.out hb)) rfl
    · exact trivial
    with_reducible refine Stab.steps_cons ?_ ?_ ?_
    · exact Stab.owes_load rfl (fun v W hb hv => by subst hv; exact run_ldM (bx_keep HX.out hb)) rfl
    · exact trivial
    with_reducible refine Stab.steps_cons ?_ ?_ ?_
    · (refine Stab.owes_call Tryz.func22 (by kernel_rfl) (by kernel_rfl) rfl (fun vs W hb hall => ?_) rfl; obtain ⟨_, _, rfl, rfl, _, _, rfl, rfl, rfl⟩ := hall; refine ((HXX.out HFA.out) W (HW.out.trans (hb.mono HW.out.size))).mono ?_; rintro e w2 ⟨rfl, hb2⟩; exact ⟨_, rfl, hb2, rfl⟩)
    · exact trivial
    with_reducible refine Stab.steps_cons ?_ ?_ ?_
    · exact Stab.owes_not rfl rfl (fun W => Stab.run_not _ W) rfl
    · exact trivial
    with_reducible refine Stab.steps_cons ?_ ?_ ?_
    · exact Stab.owes_move rfl rfl rfl
    · exact trivial
    with_reducible refine Stab.steps_cons ?_ ?_ ?_
    · exact Stab.owes_load rfl (fun v W hb hv => by subst hv; exact run_ldM (bx_keep HX.out hb)) rfl
    · exact trivial
    with_reducible refine Stab.steps_cons ?_ ?_ ?_
    · exact Stab.owes_load rfl (fun v W hb hv => by subst hv; exact run_ldM (bx_keep HYY.out hb)) rfl
    · exact trivial
    with_reducible refine Stab.steps_cons ?_ ?_ ?_
    · (refine Stab.owes_call Tryz.func22 (by kernel_rfl) (by kernel_rfl) rfl (fun vs W hb hall => ?_) rfl; obtain ⟨_, _, rfl, rfl, _, _, rfl, rfl, rfl⟩ := hall; refine ((HXY.out HFA.out) W (HW.out.trans (hb.mono HW.out.size))).mono ?_; rintro e w2 ⟨rfl, hb2⟩; exact ⟨_, rfl, hb2, rfl⟩)
    · exact trivial
    with_reducible refine Stab.steps_cons ?_ ?_ ?_
    · exact Stab.owes_load rfl (fun v W hb hv => by subst hv; exact run_ldM (bx_keep HYY.out hb)) rfl
    · exact trivial
    with_reducible refine Stab.steps_cons ?_ ?_ ?_
    · exact Stab.owes_load rfl (fun v W hb hv => by subst hv; exact run_ldM (bx_keep HX.out hb)) rfl
    · exact trivial
    with_reducible refine Stab.steps_cons ?_ ?_ ?_
    · (refine Stab.owes_call Tryz.func22 (by kernel_rfl) (by kernel_rfl) rfl (fun vs W hb hall => ?_) rfl; obtain ⟨_, _, rfl, rfl, _, _, rfl, rfl, rfl⟩ := hall; refine ((HYX.out HFB.out) W (HW.out.trans (hb.mono HW.out.size))).mono ?_; rintro e w2 ⟨rfl, hb2⟩; exact ⟨_, rfl, hb2, rfl⟩)
    · exact trivial
    with_reducible refine Stab.steps_cons ?_ ?_ ?_
    · exact Stab.owes_bin rfl rfl rfl (fun W => Stab.run_neB _ _ R R false (by cases R <;> rfl) W) rfl
    · exact trivial
    with_reducible refine Stab.steps_cons ?_ ?_ ?_
    · exact Stab.owes_pick rfl rfl rfl rfl
    · exact trivial
    exact Stab.steps_nil
  · intro W hb _
    simp only [Act.put, List.setIfInBounds_toArray, List.set_cons_succ, List.set_cons_zero]
    have HX := Lib.hid (bx_keep HX.out hb)
    have HYY := Lib.hid (bx_keep HYY.out hb)
    have HSX := Lib.hid (HSX.out.keep hb)
    have HSY := Lib.hid (HSY.out.keep hb)
    have HW := Lib.hid (HW.out.trans (hb.mono HW.out.size))
    clear hb q0 q1 q2 q3 q4 q5 q6 q7 q8 q9 q10 r0 r1 r2 r3 r4 r5 r6 r7 r8 r9 r10
    go_wp2_with fail
    refine Stab.region 63 [.is (.bool true), .is (.bool true), .is (.int .i64 0), .is (.bool false), .is (.bool false), .is (.int .i64 1), .is (.bool true), .is (.bool true), .is (.bool true), .is undef, .is undef, .is undef, .is undef, .is undef, .is undef, .is undef, .is undef, .is undef, .is (.bool true), .is (.bool true), .is (.bool true)] (by kernel_rfl) (by kernel_rfl) rfl rfl ?_ ?_
    · with_reducible refine Stab.steps_cons ?_ ?_ ?_
      · exact Stab.owes_move rfl rfl rfl
      · exact trivial
      with_reducible refine Stab.steps_cons ?_ ?_ ?_
      · exact Stab.owes_move rfl rfl rfl
      · exact trivial
      with_reducible refine Stab.steps_cons ?_ ?_ ?_
      · exact Stab.owes_move rfl rfl rfl
      · exact trivial
      with_reducible refine Stab.steps_cons ?_ ?_ ?_
      · exact Stab.owes_bin rfl rfl rfl (fun W => Stab.run_neE _ _ 0 0 false rfl W) rfl
      · exact trivial
      with_reducible refine Stab.steps_cons ?_ ?_ ?_
      · exact Stab.owes_move rfl rfl rfl
      · exact trivial
      with_reducible refine Stab.steps_cons ?_ ?_ ?_
      · exact Stab.owes_move rfl rfl rfl
      · exact trivial
      with_reducible refine Stab.steps_cons ?_ ?_ ?_
      · exact Stab.owes_bin rfl rfl rfl (fun W => Stab.run_neE _ _ 1 0 true rfl W) rfl
      · exact trivial
      with_reducible refine Stab.steps_cons ?_ ?_ ?_
      · exact Stab.owes_pick rfl rfl rfl rfl
      · exact trivial
      with_reducible refine Stab.steps_cons ?_ ?_ ?_
      · exact Stab.owes_move rfl rfl rfl
      · exact trivial
      with_reducible refine Stab.steps_cons ?_ ?_ ?_
      · exact Stab.owes_off rfl
      · exact trivial
      with_reducible refine Stab.steps_cons ?_ ?_ ?_
      · exact Stab.owes_off rfl
      · exact trivial
      with_reducible refine Stab.steps_cons ?_ ?_ ?_
      · exact Stab.owes_off rfl
      · exact trivial
      with_reducible refine Stab.steps_cons ?_ ?_ ?_
      · exact Stab.owes_off rfl
      · exact trivial
      with_reducible refine Stab.steps_cons ?_ ?_ ?_
      · exact Stab.owes_off rfl
      · exact trivial
      with_reducible refine Stab.steps_cons ?_ ?_ ?_
      · exact Stab.owes_off rfl
      · exact trivial
      with_reducible refine Stab.steps_cons ?_ ?_ ?_
      · exact Stab.owes_off rfl
      · exact trivial
      with_reducible refine Stab.steps_cons ?_ ?_ ?_
      · exact Stab.owes_off rfl
      · exact trivial
      with_reducible refine Stab.steps_cons ?_ ?_ ?_
      · exact Stab.owes_off rfl
      · exact trivial
      with_reducible refine Stab.steps_cons ?_ ?_ ?_
      · exact Stab.owes_pick rfl rfl rfl rfl
      · exact trivial
      with_reducible refine Stab.steps_cons ?_ ?_ ?_
      · exact Stab.owes_pick rfl rfl rfl rfl
      · exact trivial
      with_reducible refine Stab.steps_cons ?_ ?_ ?_
      · exact Stab.owes_assign rfl rfl rfl
      · exact trivial
      exact Stab.steps_nil
    · intro W hb _
      simp only [Act.put, List.setIfInBounds_toArray, List.set_cons_succ, List.set_cons_zero]
      have HW := Lib.hid (HW.out.trans (hb.mono HW.out.size))
      go_wp2_with fail
      go_ret
      exact ⟨rfl, HW.out⟩
theorem msame_00 (v0 v1 v2 v3 v4 v5 v6 v8 v9 v10 u0 u1 u2 u3 u4 u5 u6 u8 u9 u10 : Value) (s t : Int) (w : World) (R : Bool) (BX BY : List Int) (FA FB : Prop)
    (hA : ∀ W, Below w.heap.size w W → Calls Tryz.prog 11 #[] W fun e w' => e = .returned (.bool true) ∧ Below W.heap.size W w')
    (hS1 : ∀ W, Below w.heap.size w W → Calls Tryz.prog 15 #[.agg #[v0, v1, v2, v3, v4, v5, v6, .int .i64 s, v8, v9, v10]] W (FewTold FA W))
    (hS2 : ∀ W, Below w.heap.size w W → Calls Tryz.prog 15 #[.agg #[u0, u1, u2, u3, u4, u5, u6, .int .i64 t, u8, u9, u10]] W (FewTold FB W))
    (hP1 : FA → ∀ W, Below w.heap.size w W → Calls Tryz.prog 16 #[.agg #[v0, v1, v2, v3, v4, v5, v6, .int .i64 s, v8, v9, v10]] W (PutTold BX 0 W))
    (hP2 : FB → ∀ W, Below w.heap.size w W → Calls Tryz.prog 16 #[.agg #[u0, u1, u2, u3, u4, u5, u6, .int .i64 t, u8, u9, u10]] W (PutTold BY 0 W))
    (hXX : FA → ∀ W, Below w.heap.size w W → Calls Tryz.prog 22 #[.agg #[v0, v1, v2, v3, v4, v5, v6, .int .i64 s, v8, v9, v10], .agg #[v0, v1, v2, v3, v4, v5, v6, .int .i64 s, v8, v9, v10]] W fun e w' => e = .returned (.bool true) ∧ Below W.heap.size W w')
    (hXY : FA → ∀ W, Below w.heap.size w W → Calls Tryz.prog 22 #[.agg #[v0, v1, v2, v3, v4, v5, v6, .int .i64 s, v8, v9, v10], .agg #[u0, u1, u2, u3, u4, u5, u6, .int .i64 t, u8, u9, u10]] W fun e w' => e = .returned (.bool R) ∧ Below W.heap.size W w')
    (hYX : FB → ∀ W, Below w.heap.size w W → Calls Tryz.prog 22 #[.agg #[u0, u1, u2, u3, u4, u5, u6, .int .i64 t, u8, u9, u10], .agg #[v0, v1, v2, v3, v4, v5, v6, .int .i64 s, v8, v9, v10]] W fun e w' => e = .returned (.bool R) ∧ Below W.heap.size W w')
    (hR : ((strOfNums BX).toList == (strOfNums BY).toList) = R)
    : Calls Tryz.prog 9 #[.agg #[v0, v1, v2, v3, v4, v5, v6, .int .i64 s, v8, v9, v10], .agg #[u0, u1, u2, u3, u4, u5, u6, .int .i64 t, u8, u9, u10]] w fun e w' => e = .returned (.bool true) ∧ Below w.heap.size w w' := by
  have HR := Lib.hid hR
  clear hR
  have HA := Lib.hid hA
  have HS1 := Lib.hid hS1
  have HS2 := Lib.hid hS2
  have HP1 := Lib.hid hP1
  have HP2 := Lib.hid hP2
  have HXX := Lib.hid hXX
  have HXY := Lib.hid hXY
  have HYX := Lib.hid hYX
  clear hA hS1 hS2 hP1 hP2 hXX hXY hYX
  have HW := Lib.hid (((Below.refl w.heap.size w).alloc (Nat.le_refl _) (.cells #[v0, v1, v2, v3, v4, v5, v6, .int .i64 s, v8, v9, v10] 34)).alloc (by simp) (.cells #[u0, u1, u2, u3, u4, u5, u6, .int .i64 t, u8, u9, u10] 34))
  have HX : Hid (((w.alloc (.cells #[v0, v1, v2, v3, v4, v5, v6, .int .i64 s, v8, v9, v10] 34)).alloc (.cells #[u0, u1, u2, u3, u4, u5, u6, .int .i64 t, u8, u9, u10] 34)).heap[w.heap.size]? = some (.cells #[v0, v1, v2, v3, v4, v5, v6, .int .i64 s, v8, v9, v10] 34 (0, 0))) := Lib.hid (bx_keep (Sec.heap_new w _) ((Below.refl _ _).alloc (Nat.le_refl _) _))
  have HYY : Hid (((w.alloc (.cells #[v0, v1, v2, v3, v4, v5, v6, .int .i64 s, v8, v9, v10] 34)).alloc (.cells #[u0, u1, u2, u3, u4, u5, u6, .int .i64 t, u8, u9, u10] 34)).heap[w.heap.size + 1]? = some (.cells #[u0, u1, u2, u3, u4, u5, u6, .int .i64 t, u8, u9, u10] 34 (0, 0))) := Lib.hid (by have := Sec.heap_new (w.alloc (.cells #[v0, v1, v2, v3, v4, v5, v6, .int .i64 s, v8, v9, v10] 34)) (.cells #[u0, u1, u2, u3, u4, u5, u6, .int .i64 t, u8, u9, u10] 34); rw [Sec.size_new1] at this; exact this)
  obtain ⟨q0, q1, q2, q3, q4, q5, q6, q7, q8, q9, q10⟩ := cells11 HX.out
  obtain ⟨r0, r1, r2, r3, r4, r5, r6, r7, r8, r9, r10⟩ := cells11 HYY.out
  go_enter Tryz.func9, Tryz.ntmps9
  go_wp2_with fail
  refine (HA.out _ HW.out).mono ?_
  rintro e w1 ⟨rfl, hb⟩
  have HX := Lib.hid (bx_keep HX.out hb)
  have HYY := Lib.hid (bx_keep HYY.out hb)
  have HW := Lib.hid (HW.out.trans (hb.mono HW.out.size))
  clear hb
  clear q0 q1 q2 q3 q4 q5 q6 q7 q8 q9 q10 r0 r1 r2 r3 r4 r5 r6 r7 r8 r9 r10
  obtain ⟨q0, q1, q2, q3, q4, q5, q6, q7, q8, q9, q10⟩ := cells11 HX.out
  obtain ⟨r0, r1, r2, r3, r4, r5, r6, r7, r8, r9, r10⟩ := cells11 HYY.out
  go_wp2_with fail
  refine (HS1.out _ HW.out).mono ?_
  rintro e w2 ⟨b1, rfl, hf1, hb⟩
  have HX := Lib.hid (bx_keep HX.out hb)
  have HYY := Lib.hid (bx_keep HYY.out hb)
  have HW := Lib.hid (HW.out.trans (hb.mono HW.out.size))
  clear hb
  clear q0 q1 q2 q3 q4 q5 q6 q7 q8 q9 q10 r0 r1 r2 r3 r4 r5 r6 r7 r8 r9 r10
  obtain ⟨q0, q1, q2, q3, q4, q5, q6, q7, q8, q9, q10⟩ := cells11 HX.out
  obtain ⟨r0, r1, r2, r3, r4, r5, r6, r7, r8, r9, r10⟩ := cells11 HYY.out
  cases b1
  case false =>
    go_wp2_with fail
    go_ret
    exact ⟨rfl, HW.out⟩
  have HFA := Lib.hid (hf1 rfl)
  clear hf1
  go_wp2_with fail
  refine (HS2.out _ HW.out).mono ?_
  rintro e w3 ⟨b2, rfl, hf2, hb⟩
  have HX := Lib.hid (bx_keep HX.out hb)
  have HYY := Lib.hid (bx_keep HYY.out hb)
  have HW := Lib.hid (HW.out.trans (hb.mono HW.out.size))
  clear hb
  clear q0 q1 q2 q3 q4 q5 q6 q7 q8 q9 q10 r0 r1 r2 r3 r4 r5 r6 r7 r8 r9 r10
  obtain ⟨q0, q1, q2, q3, q4, q5, q6, q7, q8, q9, q10⟩ := cells11 HX.out
  obtain ⟨r0, r1, r2, r3, r4, r5, r6, r7, r8, r9, r10⟩ := cells11 HYY.out
  cases b2
  case false =>
    go_wp2_with fail
    go_ret
    exact ⟨rfl, HW.out⟩
  have HFB := Lib.hid (hf2 rfl)
  clear hf2
  go_wp2_with fail
  refine ((HP1.out HFA.out) _ HW.out).mono ?_
  rintro e w4 ⟨vx, rfl, hs, hb⟩
  have HX := Lib.hid (bx_keep HX.out hb)
  have HYY := Lib.hid (bx_keep HYY.out hb)
  have HW := Lib.hid (HW.out.trans (hb.mono HW.out.size))
  have HSX := Lib.hid hs
  obtain ⟨AX, cX, rfl, _⟩ := id hs
  clear hs
  clear hb
  clear q0 q1 q2 q3 q4 q5 q6 q7 q8 q9 q10 r0 r1 r2 r3 r4 r5 r6 r7 r8 r9 r10
  obtain ⟨q0, q1, q2, q3, q4, q5, q6, q7, q8, q9, q10⟩ := cells11 HX.out
  obtain ⟨r0, r1, r2, r3, r4, r5, r6, r7, r8, r9, r10⟩ := cells11 HYY.out
  go_wp2_with fail
  refine ((HP2.out HFB.out) _ HW.out).mono ?_
  rintro e w5 ⟨vy, rfl, hs, hb⟩
  have HX := Lib.hid (bx_keep HX.out hb)
  have HYY := Lib.hid (bx_keep HYY.out hb)
  have HSX := Lib.hid (HSX.out.keep hb)
  have HW := Lib.hid (HW.out.trans (hb.mono HW.out.size))
  have HSY := Lib.hid hs
  obtain ⟨AY, cY, rfl, _⟩ := id hs
  clear hs
  clear hb
  clear q0 q1 q2 q3 q4 q5 q6 q7 q8 q9 q10 r0 r1 r2 r3 r4 r5 r6 r7 r8 r9 r10
  obtain ⟨q0, q1, q2, q3, q4, q5, q6, q7, q8, q9, q10⟩ := cells11 HX.out
  obtain ⟨r0, r1, r2, r3, r4, r5, r6, r7, r8, r9, r10⟩ := cells11 HYY.out
  go_wp2_with fail
  refine Stab.region 63 [.is (.agg #[v0, v1, v2, v3, v4, v5, v6, .int .i64 s, v8, v9, v10]), .is (.agg #[v0, v1, v2, v3, v4, v5, v6, .int .i64 s, v8, v9, v10]), .is (.bool true), .is (.bool (!true)), .is (.bool (!true)), .is (.agg #[v0, v1, v2, v3, v4, v5, v6, .int .i64 s, v8, v9, v10]), .is (.agg #[u0, u1, u2, u3, u4, u5, u6, .int .i64 t, u8, u9, u10]), .is (.bool R), .is (.agg #[u0, u1, u2, u3, u4, u5, u6, .int .i64 t, u8, u9, u10]), .is (.agg #[v0, v1, v2, v3, v4, v5, v6, .int .i64 s, v8, v9, v10]), .is (.bool R), .is (.bool false), .is (.bool false)] (by kernel_rfl) (by kernel_rfl) rfl rfl ?_ ?_
  · with_reducible refine Stab.steps_cons ?_ ?_ ?_
    · exact Stab.owes_load rfl (fun v W hb hv => by subst hv; exact run_ldM (bx_keep HX.out hb)) rfl
    · exact trivial
    with_reducible refine Stab.steps_cons ?_ ?_ ?_
    · exact Stab.owes_load rfl (fun v W hb hv => by subst hv; exact run_ldM (bx_keep HX.out hb)) rfl
    · exact trivial
    with_reducible refine Stab.steps_cons ?_ ?_ ?_
    · (refine Stab.owes_call Tryz.func22 (by kernel_rfl) (by kernel_rfl) rfl (fun vs W hb hall => ?_) rfl; obtain ⟨_, _, rfl, rfl, _, _, rfl, rfl, rfl⟩ := hall; refine ((HXX.out HFA.out) W (HW.out.trans (hb.mono HW.out.size))).mono ?_; rintro e w2 ⟨rfl, hb2⟩; exact ⟨_, rfl, hb2, rfl⟩)
    · exact trivial
    with_reducible refine Stab.steps_cons ?_ ?_ ?_
    · exact Stab.owes_not rfl rfl (fun W => Stab.run_not _ W) rfl
    · exact trivial
    with_reducible refine Stab.steps_cons ?_ ?_ ?_
    · exact Stab.owes_move rfl rfl rfl
    · exact trivial
    with_reducible refine Stab.steps_cons ?_ ?_ ?_
    · exact Stab.owes_load rfl (fun v W hb hv => by subst hv; exact run_ldM (bx_keep HX.out hb)) rfl
    · exact trivial
    with_reducible refine Stab.steps_cons ?_ ?_ ?_
    · exact Stab.owes_load rfl (fun v W hb hv => by subst hv; exact run_ldM (bx_keep HYY.out hb)) rfl
    · exact trivial
    with_reducible refine Stab.steps_cons ?_ ?_ ?_
    · (refine Stab.owes_call Tryz.func22 (by kernel_rfl) (by kernel_rfl) rfl (fun vs W hb hall => ?_) rfl; obtain ⟨_, _, rfl, rfl, _, _, rfl, rfl, rfl⟩ := hall; refine ((HXY.out HFA.out) W (HW.out.trans (hb.mono HW.out.size))).mono ?_; rintro e w2 ⟨rfl, hb2⟩; exact ⟨_, rfl, hb2, rfl⟩)
    · exact trivial
    with_reducible refine Stab.steps_cons ?_ ?_ ?_
    · exact Stab.owes_load rfl (fun v W hb hv => by subst hv; exact run_ldM (bx_keep HYY.out hb)) rfl
    · exact trivial
    with_reducible refine Stab.steps_cons ?_ ?_ ?_
    · exact Stab.owes_load rfl (fun v W hb hv => by subst hv; exact run_ldM (bx_keep HX.out hb)) rfl
    · exact trivial
    with_reducible refine Stab.steps_cons ?_ ?_ ?_
    · (refine Stab.owes_call Tryz.func22 (by kernel_rfl) (by kernel_rfl) rfl (fun vs W hb hall => ?_) rfl; obtain ⟨_, _, rfl, rfl, _, _, rfl, rfl, rfl⟩ := hall; refine ((HYX.out HFB.out) W (HW.out.trans (hb.mono HW.out.size))).mono ?_; rintro e w2 ⟨rfl, hb2⟩; exact ⟨_, rfl, hb2, rfl⟩)
    · exact trivial
    with_reducible refine Stab.steps_cons ?_ ?_ ?_
    · exact Stab.owes_bin rfl rfl rfl (fun W => Stab.run_neB _ _ R R false (by cases R <;> rfl) W) rfl
    · exact trivial
    with_reducible refine Stab.steps_cons ?_ ?_ ?_
    · exact Stab.owes_pick rfl rfl rfl rfl
    · exact trivial
    exact Stab.steps_nil
  · intro W hb _
    simp only [Act.put, List.setIfInBounds_toArray, List.set_cons_succ, List.set_cons_zero]
    have HX := Lib.hid (bx_keep HX.out hb)
    have HYY := Lib.hid (bx_keep HYY.out hb)
    have HSX := Lib.hid (HSX.out.keep hb)
    have HSY := Lib.hid (HSY.out.keep hb)
    have HW := Lib.hid (HW.out.trans (hb.mono HW.out.size))
    clear hb q0 q1 q2 q3 q4 q5 q6 q7 q8 q9 q10 r0 r1 r2 r3 r4 r5 r6 r7 r8 r9 r10
    go_wp2_with fail
    refine Stab.region 63 [.is (.bool true), .is (.bool true), .is (.int .i64 0), .is (.bool false), .is (.bool false), .is (.int .i64 0), .is (.bool false), .is (.bool false), .is (.bool false), .is (.agg #[v0, v1, v2, v3, v4, v5, v6, .int .i64 s, v8, v9, v10]), .is (.agg #[u0, u1, u2, u3, u4, u5, u6, .int .i64 t, u8, u9, u10]), .is (.bool R), .is (.slice AX BX.length cX), .is (.string (strOfNums BX)), .is (.slice AY BY.length cY), .is (.string (strOfNums BY)), .is (.bool R), .is (.bool true), .is (.bool true), .is (.bool true), .is (.bool true)] (by kernel_rfl) (by kernel_rfl) rfl rfl ?_ ?_
    · with_reducible refine Stab.steps_cons ?_ ?_ ?_
      · exact Stab.owes_move rfl rfl rfl
      · exact trivial
      with_reducible refine Stab.steps_cons ?_ ?_ ?_
      · exact Stab.owes_move rfl rfl rfl
      · exact trivial
      with_reducible refine Stab.steps_cons ?_ ?_ ?_
      · exact Stab.owes_move rfl rfl rfl
      · exact trivial
      with_reducible refine Stab.steps_cons ?_ ?_ ?_
      · exact Stab.owes_bin rfl rfl rfl (fun W => Stab.run_neE _ _ 0 0 false rfl W) rfl
      · exact trivial
      with_reducible refine Stab.steps_cons ?_ ?_ ?_
      · exact Stab.owes_move rfl rfl rfl
      · exact trivial
      with_reducible refine Stab.steps_cons ?_ ?_ ?_
      · exact Stab.owes_move rfl rfl rfl
      · exact trivial
      with_reducible refine Stab.steps_cons ?_ ?_ ?_
      · exact Stab.owes_bin rfl rfl rfl (fun W => Stab.run_neE _ _ 0 0 false rfl W) rfl
      · exact trivial
      with_reducible refine Stab.steps_cons ?_ ?_ ?_
      · exact Stab.owes_pick rfl rfl rfl rfl
      · exact trivial
      with_reducible refine Stab.steps_cons ?_ ?_ ?_
      · exact Stab.owes_move rfl rfl rfl
      · exact trivial
      with_reducible refine Stab.steps_cons ?_ ?_ ?_
      · exact Stab.owes_load rfl (fun v W hb hv => by subst hv; exact run_ldM (bx_keep HX.out hb)) rfl
      · exact trivial
      with_reducible refine Stab.steps_cons ?_ ?_ ?_
      · exact Stab.owes_load rfl (fun v W hb hv => by subst hv; exact run_ldM (bx_keep HYY.out hb)) rfl
      · exact trivial
      with_reducible refine Stab.steps_cons ?_ ?_ ?_
      · (refine Stab.owes_call Tryz.func22 (by kernel_rfl) (by kernel_rfl) rfl (fun vs W hb hall => ?_) rfl; obtain ⟨_, _, rfl, rfl, _, _, rfl, rfl, rfl⟩ := hall; refine ((HXY.out HFA.out) W (HW.out.trans (hb.mono HW.out.size))).mono ?_; rintro e w2 ⟨rfl, hb2⟩; exact ⟨_, rfl, hb2, rfl⟩)
      · exact trivial
      with_reducible refine Stab.steps_cons ?_ ?_ ?_
      · exact Stab.owes_move rfl rfl rfl
      · exact trivial
      with_reducible refine Stab.steps_cons ?_ ?_ ?_
      · exact Stab.owes_convert rfl (fun v W hb hv => by subst hv; exact sl_txt (HSX.out.keep hb)) rfl
      · exact trivial
      with_reducible refine Stab.steps_cons ?_ ?_ ?_
      · exact Stab.owes_move rfl rfl rfl
      · exact trivial
      with_reducible refine Stab.steps_cons ?_ ?_ ?_
      · exact Stab.owes_convert rfl (fun v W hb hv => by subst hv; exact sl_txt (HSY.out.keep hb)) rfl
      · exact trivial
      with_reducible refine Stab.steps_cons ?_ ?_ ?_
      · exact Stab.owes_bin rfl rfl rfl (fun W => Stab.run_eqS _ _ _ _ R HR.out W) rfl
      · exact trivial
      with_reducible refine Stab.steps_cons ?_ ?_ ?_
      · exact Stab.owes_bin rfl rfl rfl (fun W => Stab.run_eqB _ _ R R true (by cases R <;> rfl) W) rfl
      · exact trivial
      with_reducible refine Stab.steps_cons ?_ ?_ ?_
      · exact Stab.owes_pick rfl rfl rfl rfl
      · exact trivial
      with_reducible refine Stab.steps_cons ?_ ?_ ?_
      · exact Stab.owes_pick rfl rfl rfl rfl
      · exact trivial
      with_reducible refine Stab.steps_cons ?_ ?_ ?_
      · exact Stab.owes_assign rfl rfl rfl
      · exact trivial
      exact Stab.steps_nil
    · intro W hb _
      simp only [Act.put, List.setIfInBounds_toArray, List.set_cons_succ, List.set_cons_zero]
      have HW := Lib.hid (HW.out.trans (hb.mono HW.out.size))
      go_wp2_with fail
      go_ret
      exact ⟨rfl, HW.out⟩
theorem enc_put {P : Bool} {bs : List Int} {w w' : World} {en : Ending} (h : EncTold P bs w en w') : PutTold (bif P then bs else []) (bif P then 0 else 1) w en w' := by
  obtain ⟨⟨rfl, g, c, rfl, hs⟩ | ⟨rfl, rfl⟩, hb⟩ := h
  · exact ⟨_, rfl, hs, hb⟩
  · exact ⟨_, rfl, Sl.nil _, hb⟩
theorem few_sml {m : ModT} (h : FewM m) : Sml m := by
  obtain ⟨⟨h0, h1, h2, h3, h4, h5, h6, h7, h8, h9⟩, k1, k2, k3, k4, k5, k6, k7⟩ := h
  exact ⟨⟨by omega, fun p hp => by have := k1 p hp; omega⟩, ⟨by omega, fun p hp => by have := k2 p hp; omega⟩, by omega, by omega, by omega, by omega, ⟨by omega, fun p hp => by have := k3 p hp; omega⟩, ⟨by omega, fun p hp => by have := (k6 p hp).2; omega⟩,
    ⟨by omega, fun p hp => by have := (k4 p hp).1; omega⟩, ⟨by omega, fun p hp => by have := (k7 p hp).2; omega⟩⟩
theorem few_cmp {m : ModT} (h : FewM m) : Cmp m := by
  obtain ⟨⟨h0, h1, h2, h3, h4, h5, h6, h7, h8, h9⟩, k1, k2, k3, k4, k5, k6, k7⟩ := h
  exact ⟨by omega, by omega, by omega, by omega, by omega, by omega, by omega, ⟨by omega, fun p hp => by have := (k4 p hp).2.1; omega⟩, by omega⟩
theorem enc_by {m : PMod} (hf : FitP m) (hd : ∀ p ∈ m.datas, Bys p.2) (ho : okP m = true) : Bys (encP m) := by
  unfold okP at ho
  rw [Bool.and_eq_true, Bool.and_eq_true] at ho
  obtain ⟨_, h2, h3⟩ := ho
  have h3' := of_decide_eq_true h3
  have hm := secL_may (secF m) 11 (by omega)
  have hl : 8 + (Sec.secsB (secL (secF m) 11)).length ≤ 65536 := by
    unfold Sec.join7 at h3'
    rw [if_neg (by rw [hm]; decide)] at h3'
    split at h3'
    · exact absurd h3' (by decide)
    · omega
  unfold encP
  rw [Sec.join_ok hm hl]
  refine Bys.app Sec.hd8_byte (Bys.flat fun p hp => ?_)
  have hid := secL_id (secF m) 11 p hp
  have hdt : Bys p.2 := by
    have key : ∀ n : Nat, n ≤ 11 → ∀ q ∈ secL (secF m) n, Bys q.2 := by
      intro n
      induction n with
      | zero => intro _ q hq; cases hq
      | succ n ih =>
        intro hn q hq
        unfold secL at hq
        rcases List.mem_append.1 hq with hq | hq
        · exact ih (by omega) q hq
        · split at hq
          · cases hq
          · rw [List.mem_singleton.1 hq]
            exact secF_by hf hd (n + 1) (okS_at h2 (by omega)).1
    exact key 11 (by omega) p hp
  unfold Sec.secB
  exact Bys.cons (by omega) (by omega) ((Bys.uB _).app hdt)
theorem msame_law {a b : ModT} {x y : Value} {w : World} (hK : KTab w) (ha : ModAt w x a) (hb : ModAt w y b) :
    Calls Tryz.prog 9 #[x, y] w fun e w' => e = .returned (.bool true) ∧ Below w.heap.size w w' := by
  have hA := fun W (hW : Below w.heap.size w W) => awake8_any W
  obtain ⟨vt, vi, vf, va, vm, vg, vx, ve, vc, vd, rfl, hja⟩ := id ha
  obtain ⟨ut, ui, uf, ua, um, ug, ux, ue, uc, ud, rfl, hjb⟩ := id hb
  clear hja hjb
  have hS1 := fun W (hW : Below w.heap.size w W) => few_m (ha.keep hW)
  have hS2 := fun W (hW : Below w.heap.size w W) => few_m (hb.keep hW)
  obtain ⟨fa, da⟩ := fit_at ha
  obtain ⟨fb, db⟩ := fit_at hb
  obtain ⟨R, hR⟩ : ∃ R : Bool, (R = true ↔ plainM a = plainM b) := by
    by_cases h : plainM a = plainM b
    · exact ⟨true, by simp [h]⟩
    · exact ⟨false, by simp [h]⟩
  have hXX : FewM a → ∀ W, Below w.heap.size w W → _ := fun hF W hW => (psame8_any (few_cmp hF) (ha.keep hW) (ha.keep hW)).mono fun en w' h => (show en = .returned (.bool true) ∧ Below W.heap.size W w' from by
    obtain ⟨⟨r, rfl, hr⟩, hbw⟩ := h
    rw [hr.2 rfl]
    exact ⟨rfl, hbw⟩)
  have hXY : FewM a → ∀ W, Below w.heap.size w W → _ := fun hF W hW => (psame8_any (few_cmp hF) (ha.keep hW) (hb.keep hW)).mono fun en w' h => (show en = .returned (.bool R) ∧ Below W.heap.size W w' from by
    obtain ⟨⟨r, rfl, hr⟩, hbw⟩ := h
    rw [Bool.eq_iff_iff.2 (hr.trans hR.symm)]
    exact ⟨rfl, hbw⟩)
  have hYX : FewM b → ∀ W, Below w.heap.size w W → _ := fun hF W hW => (psame8_any (few_cmp hF) (hb.keep hW) (ha.keep hW)).mono fun en w' h => (show en = .returned (.bool R) ∧ Below W.heap.size W w' from by
    obtain ⟨⟨r, rfl, hr⟩, hbw⟩ := h
    rw [Bool.eq_iff_iff.2 ((hr.trans ⟨Eq.symm, Eq.symm⟩).trans hR.symm)]
    exact ⟨rfl, hbw⟩)
  have hP1 := fun (hF : FewM a) W (hW : Below w.heap.size w W) => (penc_any (hK.keep hW) (ha.keep hW) (few_sml hF)).mono fun en w' h => enc_put h
  have hP2 := fun (hF : FewM b) W (hW : Below w.heap.size w W) => (penc_any (hK.keep hW) (hb.keep hW) (few_sml hF)).mono fun en w' h => enc_put h
  cases pa : okP (plainM a) with
  | false =>
    rw [pa] at hP1
    cases pb : okP (plainM b) with
    | false =>
      rw [pb] at hP2
      exact msame_11 _ _ _ _ _ _ _ _ _ _ _ _ _ _ _ _ _ _ _ _ _ _ w R _ _ _ _ hA hS1 hS2 hP1 hP2 hXX hXY hYX
    | true =>
      rw [pb] at hP2
      exact msame_10 _ _ _ _ _ _ _ _ _ _ _ _ _ _ _ _ _ _ _ _ _ _ w R _ _ _ _ hA hS1 hS2 hP1 hP2 hXX hXY hYX
  | true =>
    rw [pa] at hP1
    cases pb : okP (plainM b) with
    | false =>
      rw [pb] at hP2
      exact msame_01 _ _ _ _ _ _ _ _ _ _ _ _ _ _ _ _ _ _ _ _ _ _ w R _ _ _ _ hA hS1 hS2 hP1 hP2 hXX hXY hYX
    | true =>
      rw [pb] at hP2
      have hRR : ((strOfNums (encP (plainM a))).toList == (strOfNums (encP (plainM b))).toList) = R := by
        rw [str_beq (enc_by fa da pa) (enc_by fb db pb), Bool.eq_iff_iff, decide_eq_true_iff, hR]
        exact enc_inj fa fb pa pb
      exact msame_00 _ _ _ _ _ _ _ _ _ _ _ _ _ _ _ _ _ _ _ _ _ _ w R _ _ _ _ hA hS1 hS2 hP1 hP2 hXX hXY hYX hRR
end Go.Proofs.YtffegkjlgeblbaaGreatDoor.Mdl
