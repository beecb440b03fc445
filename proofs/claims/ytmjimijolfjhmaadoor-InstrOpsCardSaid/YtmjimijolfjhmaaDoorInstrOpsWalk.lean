/- InstrOps walked: kinds, shapes and accesses agree. -/
import Derived.Test.YtmjimijolfjhmaaDoorInsPAwake
namespace Go.Proofs.YtmjimijolfjhmaaDoor.Ins
open Go.RowKit Ints Typ
set_option maxRecDepth 100000
set_option maxHeartbeats 2000000
set_option linter.unusedVariables false

theorem ops_hyps (op K t n : Int) (ok s st : Bool) (w : World) (hK : KTab w) (hA : ATab w) (h1 : kd op = K) (h2 : famB op = ok) (h3 : ax op = (t, n, s, st)) :
    (∀ W, Below w.heap.size w W → Calls Tryd.prog 9 #[] W fun e w' => e = .returned (.bool true) ∧ Below W.heap.size W w') ∧
    (∀ W, Below w.heap.size w W → Calls Tryd.prog 21 #[.int .i64 op] W fun e w' => e = .returned (.int .i64 K) ∧ W = w') ∧
    (∀ W, Below w.heap.size w W → Calls Tryd.prog 23 #[.int .i64 op] W fun e w' => ∃ A m T, e = .returned (.tuple #[.slice A m m, .int .u8 T, .bool ok]) ∧ Below W.heap.size W w') ∧
    (∀ W, Below w.heap.size w W → Calls Tryd.prog 15 #[.int .i64 op] W fun e w' => e = .returned (.tuple #[.int .u8 t, .int .i64 n, .bool s, .bool st]) ∧ Below W.heap.size W w') := by
  refine ⟨fun W hW => awake_any W (hK.keep hW), fun W hW => h1 ▸ kind_any op W (hK.keep hW), fun W hW => ?_, fun W hW => ?_⟩
  · subst h2
    cases hb : famB op with
    | false =>
      exact (shape_none op hb W).mono fun e w' ⟨k1, k2⟩ => ⟨_, _, _, k1, k2 ▸ Below.refl _ _⟩
    | true =>
      cases ht : tkB (famL op) with
      | true => exact (shape_one op _ _ hb ht rfl rfl W).mono fun e w' ⟨k1, k2⟩ => ⟨_, _, _, k1, k2 ▸ (Below.refl _ _).alloc (Nat.le_refl _) _⟩
      | false => exact (shape_two op _ _ hb ht rfl rfl W).mono fun e w' ⟨k1, k2⟩ => ⟨_, _, _, k1, k2 ▸ (Below.refl _ _).alloc (Nat.le_refl _) _⟩
  · have := access_any op W (hA.keep hW)
    rw [h3] at this
    exact this
theorem ops_0n_0_0_00 (op : Int) (w : World) (hK : KTab w) (hA : ATab w) (h1 : kd op = 0) (h2 : famB op = false) (h3 : ax op = (0, 0, false, false)) :
    Calls Tryd.prog 6 #[.int .i64 op] w fun e w' => e = .returned (.bool true) ∧ Below w.heap.size w w' := by
  obtain ⟨k1, k2, k3, k4⟩ := ops_hyps op _ _ _ _ _ _ w hK hA h1 h2 h3
  have H1 := Lib.hid k1
  have H2 := Lib.hid k2
  have H3 := Lib.hid k3
  have H4 := Lib.hid k4
  clear k1 k2 k3 k4 h1 h2 h3 hK hA
  go_enter Tryd.func6, Tryd.ntmps6
  go_wp2_with fail
  refine (H1.out _ (Below.refl _ _)).mono ?_
  rintro e w1 ⟨rfl, hb⟩
  have HW := Lib.hid hb
  clear hb
  go_wp2_with fail
  refine (H2.out _ HW.out).mono ?_
  rintro e w2 ⟨rfl, rfl⟩
  go_wp2_with fail
  refine (H3.out _ HW.out).mono ?_
  rintro e w2 ⟨A, m, T, rfl, hb⟩
  have HW2 := Lib.hid (HW.out.trans (hb.mono HW.out.size))
  clear hb
  go_wp2_with fail
  refine (H4.out _ HW2.out).mono ?_
  rintro e w3 ⟨rfl, hb⟩
  have HW3 := Lib.hid (HW2.out.trans (hb.mono HW2.out.size))
  clear hb
  go_wp2_with fail
  go_ret
  exact ⟨rfl, HW3.out⟩
theorem ops_2n_0_0_00 (op : Int) (w : World) (hK : KTab w) (hA : ATab w) (t1 : decide (op < 0) = false) (t2 : decide (255 < op) = false) (h1 : kd op = 2) (h2 : famB op = false) (h3 : ax op = (0, 0, false, false)) :
    Calls Tryd.prog 6 #[.int .i64 op] w fun e w' => e = .returned (.bool true) ∧ Below w.heap.size w w' := by
  obtain ⟨k1, k2, k3, k4⟩ := ops_hyps op _ _ _ _ _ _ w hK hA h1 h2 h3
  have H1 := Lib.hid k1
  have H2 := Lib.hid k2
  have H3 := Lib.hid k3
  have H4 := Lib.hid k4
  clear k1 k2 k3 k4 h1 h2 h3 hK hA
  go_enter Tryd.func6, Tryd.ntmps6
  go_wp2_with fail
  refine (H1.out _ (Below.refl _ _)).mono ?_
  rintro e w1 ⟨rfl, hb⟩
  have HW := Lib.hid hb
  clear hb
  go_wp2_with fail
  refine (H2.out _ HW.out).mono ?_
  rintro e w2 ⟨rfl, rfl⟩
  go_wp2_with fail
  refine (H3.out _ HW.out).mono ?_
  rintro e w2 ⟨A, m, T, rfl, hb⟩
  have HW2 := Lib.hid (HW.out.trans (hb.mono HW.out.size))
  clear hb
  go_wp2_with fail
  refine (H4.out _ HW2.out).mono ?_
  rintro e w3 ⟨rfl, hb⟩
  have HW3 := Lib.hid (HW2.out.trans (hb.mono HW2.out.size))
  clear hb
  go_wp2_with fail
  go_ret
  exact ⟨rfl, HW3.out⟩
theorem ops_3n_0_0_00 (op : Int) (w : World) (hK : KTab w) (hA : ATab w) (t1 : decide (op < 0) = false) (t2 : decide (255 < op) = false) (h1 : kd op = 3) (h2 : famB op = false) (h3 : ax op = (0, 0, false, false)) :
    Calls Tryd.prog 6 #[.int .i64 op] w fun e w' => e = .returned (.bool true) ∧ Below w.heap.size w w' := by
  obtain ⟨k1, k2, k3, k4⟩ := ops_hyps op _ _ _ _ _ _ w hK hA h1 h2 h3
  have H1 := Lib.hid k1
  have H2 := Lib.hid k2
  have H3 := Lib.hid k3
  have H4 := Lib.hid k4
  clear k1 k2 k3 k4 h1 h2 h3 hK hA
  go_enter Tryd.func6, Tryd.ntmps6
  go_wp2_with fail
  refine (H1.out _ (Below.refl _ _)).mono ?_
  rintro e w1 ⟨rfl, hb⟩
  have HW := Lib.hid hb
  clear hb
  go_wp2_with fail
  refine (H2.out _ HW.out).mono ?_
  rintro e w2 ⟨rfl, rfl⟩
  go_wp2_with fail
  refine (H3.out _ HW.out).mono ?_
  rintro e w2 ⟨A, m, T, rfl, hb⟩
  have HW2 := Lib.hid (HW.out.trans (hb.mono HW.out.size))
  clear hb
  go_wp2_with fail
  refine (H4.out _ HW2.out).mono ?_
  rintro e w3 ⟨rfl, hb⟩
  have HW3 := Lib.hid (HW2.out.trans (hb.mono HW2.out.size))
  clear hb
  go_wp2_with fail
  go_ret
  exact ⟨rfl, HW3.out⟩
theorem ops_4n_0_0_00 (op : Int) (w : World) (hK : KTab w) (hA : ATab w) (t1 : decide (op < 0) = false) (t2 : decide (255 < op) = false) (h1 : kd op = 4) (h2 : famB op = false) (h3 : ax op = (0, 0, false, false)) :
    Calls Tryd.prog 6 #[.int .i64 op] w fun e w' => e = .returned (.bool true) ∧ Below w.heap.size w w' := by
  obtain ⟨k1, k2, k3, k4⟩ := ops_hyps op _ _ _ _ _ _ w hK hA h1 h2 h3
  have H1 := Lib.hid k1
  have H2 := Lib.hid k2
  have H3 := Lib.hid k3
  have H4 := Lib.hid k4
  clear k1 k2 k3 k4 h1 h2 h3 hK hA
  go_enter Tryd.func6, Tryd.ntmps6
  go_wp2_with fail
  refine (H1.out _ (Below.refl _ _)).mono ?_
  rintro e w1 ⟨rfl, hb⟩
  have HW := Lib.hid hb
  clear hb
  go_wp2_with fail
  refine (H2.out _ HW.out).mono ?_
  rintro e w2 ⟨rfl, rfl⟩
  go_wp2_with fail
  refine (H3.out _ HW.out).mono ?_
  rintro e w2 ⟨A, m, T, rfl, hb⟩
  have HW2 := Lib.hid (HW.out.trans (hb.mono HW.out.size))
  clear hb
  go_wp2_with fail
  refine (H4.out _ HW2.out).mono ?_
  rintro e w3 ⟨rfl, hb⟩
  have HW3 := Lib.hid (HW2.out.trans (hb.mono HW2.out.size))
  clear hb
  go_wp2_with fail
  go_ret
  exact ⟨rfl, HW3.out⟩
theorem ops_5n_0_0_00 (op : Int) (w : World) (hK : KTab w) (hA : ATab w) (t1 : decide (op < 0) = false) (t2 : decide (255 < op) = false) (h1 : kd op = 5) (h2 : famB op = false) (h3 : ax op = (0, 0, false, false)) :
    Calls Tryd.prog 6 #[.int .i64 op] w fun e w' => e = .returned (.bool true) ∧ Below w.heap.size w w' := by
  obtain ⟨k1, k2, k3, k4⟩ := ops_hyps op _ _ _ _ _ _ w hK hA h1 h2 h3
  have H1 := Lib.hid k1
  have H2 := Lib.hid k2
  have H3 := Lib.hid k3
  have H4 := Lib.hid k4
  clear k1 k2 k3 k4 h1 h2 h3 hK hA
  go_enter Tryd.func6, Tryd.ntmps6
  go_wp2_with fail
  refine (H1.out _ (Below.refl _ _)).mono ?_
  rintro e w1 ⟨rfl, hb⟩
  have HW := Lib.hid hb
  clear hb
  go_wp2_with fail
  refine (H2.out _ HW.out).mono ?_
  rintro e w2 ⟨rfl, rfl⟩
  go_wp2_with fail
  refine (H3.out _ HW.out).mono ?_
  rintro e w2 ⟨A, m, T, rfl, hb⟩
  have HW2 := Lib.hid (HW.out.trans (hb.mono HW.out.size))
  clear hb
  go_wp2_with fail
  refine (H4.out _ HW2.out).mono ?_
  rintro e w3 ⟨rfl, hb⟩
  have HW3 := Lib.hid (HW2.out.trans (hb.mono HW2.out.size))
  clear hb
  go_wp2_with fail
  go_ret
  exact ⟨rfl, HW3.out⟩
theorem ops_7n_0_0_00 (op : Int) (w : World) (hK : KTab w) (hA : ATab w) (t1 : decide (op < 0) = false) (t2 : decide (255 < op) = false) (h1 : kd op = 7) (h2 : famB op = false) (h3 : ax op = (0, 0, false, false)) :
    Calls Tryd.prog 6 #[.int .i64 op] w fun e w' => e = .returned (.bool true) ∧ Below w.heap.size w w' := by
  obtain ⟨k1, k2, k3, k4⟩ := ops_hyps op _ _ _ _ _ _ w hK hA h1 h2 h3
  have H1 := Lib.hid k1
  have H2 := Lib.hid k2
  have H3 := Lib.hid k3
  have H4 := Lib.hid k4
  clear k1 k2 k3 k4 h1 h2 h3 hK hA
  go_enter Tryd.func6, Tryd.ntmps6
  go_wp2_with fail
  refine (H1.out _ (Below.refl _ _)).mono ?_
  rintro e w1 ⟨rfl, hb⟩
  have HW := Lib.hid hb
  clear hb
  go_wp2_with fail
  refine (H2.out _ HW.out).mono ?_
  rintro e w2 ⟨rfl, rfl⟩
  go_wp2_with fail
  refine (H3.out _ HW.out).mono ?_
  rintro e w2 ⟨A, m, T, rfl, hb⟩
  have HW2 := Lib.hid (HW.out.trans (hb.mono HW.out.size))
  clear hb
  go_wp2_with fail
  refine (H4.out _ HW2.out).mono ?_
  rintro e w3 ⟨rfl, hb⟩
  have HW3 := Lib.hid (HW2.out.trans (hb.mono HW2.out.size))
  clear hb
  go_wp2_with fail
  go_ret
  exact ⟨rfl, HW3.out⟩
theorem ops_8n_0_0_00 (op : Int) (w : World) (hK : KTab w) (hA : ATab w) (t1 : decide (op < 0) = false) (t2 : decide (255 < op) = false) (h1 : kd op = 8) (h2 : famB op = false) (h3 : ax op = (0, 0, false, false)) :
    Calls Tryd.prog 6 #[.int .i64 op] w fun e w' => e = .returned (.bool true) ∧ Below w.heap.size w w' := by
  obtain ⟨k1, k2, k3, k4⟩ := ops_hyps op _ _ _ _ _ _ w hK hA h1 h2 h3
  have H1 := Lib.hid k1
  have H2 := Lib.hid k2
  have H3 := Lib.hid k3
  have H4 := Lib.hid k4
  clear k1 k2 k3 k4 h1 h2 h3 hK hA
  go_enter Tryd.func6, Tryd.ntmps6
  go_wp2_with fail
  refine (H1.out _ (Below.refl _ _)).mono ?_
  rintro e w1 ⟨rfl, hb⟩
  have HW := Lib.hid hb
  clear hb
  go_wp2_with fail
  refine (H2.out _ HW.out).mono ?_
  rintro e w2 ⟨rfl, rfl⟩
  go_wp2_with fail
  refine (H3.out _ HW.out).mono ?_
  rintro e w2 ⟨A, m, T, rfl, hb⟩
  have HW2 := Lib.hid (HW.out.trans (hb.mono HW.out.size))
  clear hb
  go_wp2_with fail
  refine (H4.out _ HW2.out).mono ?_
  rintro e w3 ⟨rfl, hb⟩
  have HW3 := Lib.hid (HW2.out.trans (hb.mono HW2.out.size))
  clear hb
  go_wp2_with fail
  go_ret
  exact ⟨rfl, HW3.out⟩
theorem ops_9n_0_0_00 (op : Int) (w : World) (hK : KTab w) (hA : ATab w) (t1 : decide (op < 0) = false) (t2 : decide (255 < op) = false) (h1 : kd op = 9) (h2 : famB op = false) (h3 : ax op = (0, 0, false, false)) :
    Calls Tryd.prog 6 #[.int .i64 op] w fun e w' => e = .returned (.bool true) ∧ Below w.heap.size w w' := by
  obtain ⟨k1, k2, k3, k4⟩ := ops_hyps op _ _ _ _ _ _ w hK hA h1 h2 h3
  have H1 := Lib.hid k1
  have H2 := Lib.hid k2
  have H3 := Lib.hid k3
  have H4 := Lib.hid k4
  clear k1 k2 k3 k4 h1 h2 h3 hK hA
  go_enter Tryd.func6, Tryd.ntmps6
  go_wp2_with fail
  refine (H1.out _ (Below.refl _ _)).mono ?_
  rintro e w1 ⟨rfl, hb⟩
  have HW := Lib.hid hb
  clear hb
  go_wp2_with fail
  refine (H2.out _ HW.out).mono ?_
  rintro e w2 ⟨rfl, rfl⟩
  go_wp2_with fail
  refine (H3.out _ HW.out).mono ?_
  rintro e w2 ⟨A, m, T, rfl, hb⟩
  have HW2 := Lib.hid (HW.out.trans (hb.mono HW.out.size))
  clear hb
  go_wp2_with fail
  refine (H4.out _ HW2.out).mono ?_
  rintro e w3 ⟨rfl, hb⟩
  have HW3 := Lib.hid (HW2.out.trans (hb.mono HW2.out.size))
  clear hb
  go_wp2_with fail
  go_ret
  exact ⟨rfl, HW3.out⟩
theorem ops_1n_0_0_00 (op : Int) (w : World) (hK : KTab w) (hA : ATab w) (t1 : decide (op < 0) = false) (t2 : decide (255 < op) = false) (h1 : kd op = 1) (h2 : famB op = false) (h3 : ax op = (0, 0, false, false)) :
    Calls Tryd.prog 6 #[.int .i64 op] w fun e w' => e = .returned (.bool true) ∧ Below w.heap.size w w' := by
  obtain ⟨k1, k2, k3, k4⟩ := ops_hyps op _ _ _ _ _ _ w hK hA h1 h2 h3
  have H1 := Lib.hid k1
  have H2 := Lib.hid k2
  have H3 := Lib.hid k3
  have H4 := Lib.hid k4
  clear k1 k2 k3 k4 h1 h2 h3 hK hA
  go_enter Tryd.func6, Tryd.ntmps6
  go_wp2_with fail
  refine (H1.out _ (Below.refl _ _)).mono ?_
  rintro e w1 ⟨rfl, hb⟩
  have HW := Lib.hid hb
  clear hb
  go_wp2_with fail
  refine (H2.out _ HW.out).mono ?_
  rintro e w2 ⟨rfl, rfl⟩
  go_wp2_with fail
  refine (H3.out _ HW.out).mono ?_
  rintro e w2 ⟨A, m, T, rfl, hb⟩
  have HW2 := Lib.hid (HW.out.trans (hb.mono HW.out.size))
  clear hb
  go_wp2_with fail
  refine (H4.out _ HW2.out).mono ?_
  rintro e w3 ⟨rfl, hb⟩
  have HW3 := Lib.hid (HW2.out.trans (hb.mono HW2.out.size))
  clear hb
  go_wp2_with fail
  go_ret
  exact ⟨rfl, HW3.out⟩
theorem ops_1y_0_0_00 (op : Int) (w : World) (hK : KTab w) (hA : ATab w) (t1 : decide (op < 0) = false) (t2 : decide (255 < op) = false) (h1 : kd op = 1) (h2 : famB op = true) (h3 : ax op = (0, 0, false, false)) :
    Calls Tryd.prog 6 #[.int .i64 op] w fun e w' => e = .returned (.bool true) ∧ Below w.heap.size w w' := by
  obtain ⟨k1, k2, k3, k4⟩ := ops_hyps op _ _ _ _ _ _ w hK hA h1 h2 h3
  have H1 := Lib.hid k1
  have H2 := Lib.hid k2
  have H3 := Lib.hid k3
  have H4 := Lib.hid k4
  clear k1 k2 k3 k4 h1 h2 h3 hK hA
  go_enter Tryd.func6, Tryd.ntmps6
  go_wp2_with fail
  refine (H1.out _ (Below.refl _ _)).mono ?_
  rintro e w1 ⟨rfl, hb⟩
  have HW := Lib.hid hb
  clear hb
  go_wp2_with fail
  refine (H2.out _ HW.out).mono ?_
  rintro e w2 ⟨rfl, rfl⟩
  go_wp2_with fail
  refine (H3.out _ HW.out).mono ?_
  rintro e w2 ⟨A, m, T, rfl, hb⟩
  have HW2 := Lib.hid (HW.out.trans (hb.mono HW.out.size))
  clear hb
  go_wp2_with fail
  refine (H4.out _ HW2.out).mono ?_
  rintro e w3 ⟨rfl, hb⟩
  have HW3 := Lib.hid (HW2.out.trans (hb.mono HW2.out.size))
  clear hb
  go_wp2_with fail
  go_ret
  exact ⟨rfl, HW3.out⟩
theorem ops_6n_126_1_00 (op : Int) (w : World) (hK : KTab w) (hA : ATab w) (t1 : decide (op < 0) = false) (t2 : decide (255 < op) = false) (h1 : kd op = 6) (h2 : famB op = false) (h3 : ax op = (126, 1, false, false)) :
    Calls Tryd.prog 6 #[.int .i64 op] w fun e w' => e = .returned (.bool true) ∧ Below w.heap.size w w' := by
  obtain ⟨k1, k2, k3, k4⟩ := ops_hyps op _ _ _ _ _ _ w hK hA h1 h2 h3
  have H1 := Lib.hid k1
  have H2 := Lib.hid k2
  have H3 := Lib.hid k3
  have H4 := Lib.hid k4
  clear k1 k2 k3 k4 h1 h2 h3 hK hA
  go_enter Tryd.func6, Tryd.ntmps6
  go_wp2_with fail
  refine (H1.out _ (Below.refl _ _)).mono ?_
  rintro e w1 ⟨rfl, hb⟩
  have HW := Lib.hid hb
  clear hb
  go_wp2_with fail
  refine (H2.out _ HW.out).mono ?_
  rintro e w2 ⟨rfl, rfl⟩
  go_wp2_with fail
  refine (H3.out _ HW.out).mono ?_
  rintro e w2 ⟨A, m, T, rfl, hb⟩
  have HW2 := Lib.hid (HW.out.trans (hb.mono HW.out.size))
  clear hb
  go_wp2_with fail
  refine (H4.out _ HW2.out).mono ?_
  rintro e w3 ⟨rfl, hb⟩
  have HW3 := Lib.hid (HW2.out.trans (hb.mono HW2.out.size))
  clear hb
  go_wp2_with fail
  go_ret
  exact ⟨rfl, HW3.out⟩
theorem ops_6n_126_1_01 (op : Int) (w : World) (hK : KTab w) (hA : ATab w) (t1 : decide (op < 0) = false) (t2 : decide (255 < op) = false) (h1 : kd op = 6) (h2 : famB op = false) (h3 : ax op = (126, 1, false, true)) :
    Calls Tryd.prog 6 #[.int .i64 op] w fun e w' => e = .returned (.bool true) ∧ Below w.heap.size w w' := by
  obtain ⟨k1, k2, k3, k4⟩ := ops_hyps op _ _ _ _ _ _ w hK hA h1 h2 h3
  have H1 := Lib.hid k1
  have H2 := Lib.hid k2
  have H3 := Lib.hid k3
  have H4 := Lib.hid k4
  clear k1 k2 k3 k4 h1 h2 h3 hK hA
  go_enter Tryd.func6, Tryd.ntmps6
  go_wp2_with fail
  refine (H1.out _ (Below.refl _ _)).mono ?_
  rintro e w1 ⟨rfl, hb⟩
  have HW := Lib.hid hb
  clear hb
  go_wp2_with fail
  refine (H2.out _ HW.out).mono ?_
  rintro e w2 ⟨rfl, rfl⟩
  go_wp2_with fail
  refine (H3.out _ HW.out).mono ?_
  rintro e w2 ⟨A, m, T, rfl, hb⟩
  have HW2 := Lib.hid (HW.out.trans (hb.mono HW.out.size))
  clear hb
  go_wp2_with fail
  refine (H4.out _ HW2.out).mono ?_
  rintro e w3 ⟨rfl, hb⟩
  have HW3 := Lib.hid (HW2.out.trans (hb.mono HW2.out.size))
  clear hb
  go_wp2_with fail
  go_ret
  exact ⟨rfl, HW3.out⟩
theorem ops_6n_126_1_10 (op : Int) (w : World) (hK : KTab w) (hA : ATab w) (t1 : decide (op < 0) = false) (t2 : decide (255 < op) = false) (h1 : kd op = 6) (h2 : famB op = false) (h3 : ax op = (126, 1, true, false)) :
    Calls Tryd.prog 6 #[.int .i64 op] w fun e w' => e = .returned (.bool true) ∧ Below w.heap.size w w' := by
  obtain ⟨k1, k2, k3, k4⟩ := ops_hyps op _ _ _ _ _ _ w hK hA h1 h2 h3
  have H1 := Lib.hid k1
  have H2 := Lib.hid k2
  have H3 := Lib.hid k3
  have H4 := Lib.hid k4
  clear k1 k2 k3 k4 h1 h2 h3 hK hA
  go_enter Tryd.func6, Tryd.ntmps6
  go_wp2_with fail
  refine (H1.out _ (Below.refl _ _)).mono ?_
  rintro e w1 ⟨rfl, hb⟩
  have HW := Lib.hid hb
  clear hb
  go_wp2_with fail
  refine (H2.out _ HW.out).mono ?_
  rintro e w2 ⟨rfl, rfl⟩
  go_wp2_with fail
  refine (H3.out _ HW.out).mono ?_
  rintro e w2 ⟨A, m, T, rfl, hb⟩
  have HW2 := Lib.hid (HW.out.trans (hb.mono HW.out.size))
  clear hb
  go_wp2_with fail
  refine (H4.out _ HW2.out).mono ?_
  rintro e w3 ⟨rfl, hb⟩
  have HW3 := Lib.hid (HW2.out.trans (hb.mono HW2.out.size))
  clear hb
  go_wp2_with fail
  go_ret
  exact ⟨rfl, HW3.out⟩
theorem ops_6n_126_2_00 (op : Int) (w : World) (hK : KTab w) (hA : ATab w) (t1 : decide (op < 0) = false) (t2 : decide (255 < op) = false) (h1 : kd op = 6) (h2 : famB op = false) (h3 : ax op = (126, 2, false, false)) :
    Calls Tryd.prog 6 #[.int .i64 op] w fun e w' => e = .returned (.bool true) ∧ Below w.heap.size w w' := by
  obtain ⟨k1, k2, k3, k4⟩ := ops_hyps op _ _ _ _ _ _ w hK hA h1 h2 h3
  have H1 := Lib.hid k1
  have H2 := Lib.hid k2
  have H3 := Lib.hid k3
  have H4 := Lib.hid k4
  clear k1 k2 k3 k4 h1 h2 h3 hK hA
  go_enter Tryd.func6, Tryd.ntmps6
  go_wp2_with fail
  refine (H1.out _ (Below.refl _ _)).mono ?_
  rintro e w1 ⟨rfl, hb⟩
  have HW := Lib.hid hb
  clear hb
  go_wp2_with fail
  refine (H2.out _ HW.out).mono ?_
  rintro e w2 ⟨rfl, rfl⟩
  go_wp2_with fail
  refine (H3.out _ HW.out).mono ?_
  rintro e w2 ⟨A, m, T, rfl, hb⟩
  have HW2 := Lib.hid (HW.out.trans (hb.mono HW.out.size))
  clear hb
  go_wp2_with fail
  refine (H4.out _ HW2.out).mono ?_
  rintro e w3 ⟨rfl, hb⟩
  have HW3 := Lib.hid (HW2.out.trans (hb.mono HW2.out.size))
  clear hb
  go_wp2_with fail
  go_ret
  exact ⟨rfl, HW3.out⟩
theorem ops_6n_126_2_01 (op : Int) (w : World) (hK : KTab w) (hA : ATab w) (t1 : decide (op < 0) = false) (t2 : decide (255 < op) = false) (h1 : kd op = 6) (h2 : famB op = false) (h3 : ax op = (126, 2, false, true)) :
    Calls Tryd.prog 6 #[.int .i64 op] w fun e w' => e = .returned (.bool true) ∧ Below w.heap.size w w' := by
  obtain ⟨k1, k2, k3, k4⟩ := ops_hyps op _ _ _ _ _ _ w hK hA h1 h2 h3
  have H1 := Lib.hid k1
  have H2 := Lib.hid k2
  have H3 := Lib.hid k3
  have H4 := Lib.hid k4
  clear k1 k2 k3 k4 h1 h2 h3 hK hA
  go_enter Tryd.func6, Tryd.ntmps6
  go_wp2_with fail
  refine (H1.out _ (Below.refl _ _)).mono ?_
  rintro e w1 ⟨rfl, hb⟩
  have HW := Lib.hid hb
  clear hb
  go_wp2_with fail
  refine (H2.out _ HW.out).mono ?_
  rintro e w2 ⟨rfl, rfl⟩
  go_wp2_with fail
  refine (H3.out _ HW.out).mono ?_
  rintro e w2 ⟨A, m, T, rfl, hb⟩
  have HW2 := Lib.hid (HW.out.trans (hb.mono HW.out.size))
  clear hb
  go_wp2_with fail
  refine (H4.out _ HW2.out).mono ?_
  rintro e w3 ⟨rfl, hb⟩
  have HW3 := Lib.hid (HW2.out.trans (hb.mono HW2.out.size))
  clear hb
  go_wp2_with fail
  go_ret
  exact ⟨rfl, HW3.out⟩
theorem ops_6n_126_2_10 (op : Int) (w : World) (hK : KTab w) (hA : ATab w) (t1 : decide (op < 0) = false) (t2 : decide (255 < op) = false) (h1 : kd op = 6) (h2 : famB op = false) (h3 : ax op = (126, 2, true, false)) :
    Calls Tryd.prog 6 #[.int .i64 op] w fun e w' => e = .returned (.bool true) ∧ Below w.heap.size w w' := by
  obtain ⟨k1, k2, k3, k4⟩ := ops_hyps op _ _ _ _ _ _ w hK hA h1 h2 h3
  have H1 := Lib.hid k1
  have H2 := Lib.hid k2
  have H3 := Lib.hid k3
  have H4 := Lib.hid k4
  clear k1 k2 k3 k4 h1 h2 h3 hK hA
  go_enter Tryd.func6, Tryd.ntmps6
  go_wp2_with fail
  refine (H1.out _ (Below.refl _ _)).mono ?_
  rintro e w1 ⟨rfl, hb⟩
  have HW := Lib.hid hb
  clear hb
  go_wp2_with fail
  refine (H2.out _ HW.out).mono ?_
  rintro e w2 ⟨rfl, rfl⟩
  go_wp2_with fail
  refine (H3.out _ HW.out).mono ?_
  rintro e w2 ⟨A, m, T, rfl, hb⟩
  have HW2 := Lib.hid (HW.out.trans (hb.mono HW.out.size))
  clear hb
  go_wp2_with fail
  refine (H4.out _ HW2.out).mono ?_
  rintro e w3 ⟨rfl, hb⟩
  have HW3 := Lib.hid (HW2.out.trans (hb.mono HW2.out.size))
  clear hb
  go_wp2_with fail
  go_ret
  exact ⟨rfl, HW3.out⟩
theorem ops_6n_126_4_00 (op : Int) (w : World) (hK : KTab w) (hA : ATab w) (t1 : decide (op < 0) = false) (t2 : decide (255 < op) = false) (h1 : kd op = 6) (h2 : famB op = false) (h3 : ax op = (126, 4, false, false)) :
    Calls Tryd.prog 6 #[.int .i64 op] w fun e w' => e = .returned (.bool true) ∧ Below w.heap.size w w' := by
  obtain ⟨k1, k2, k3, k4⟩ := ops_hyps op _ _ _ _ _ _ w hK hA h1 h2 h3
  have H1 := Lib.hid k1
  have H2 := Lib.hid k2
  have H3 := Lib.hid k3
  have H4 := Lib.hid k4
  clear k1 k2 k3 k4 h1 h2 h3 hK hA
  go_enter Tryd.func6, Tryd.ntmps6
  go_wp2_with fail
  refine (H1.out _ (Below.refl _ _)).mono ?_
  rintro e w1 ⟨rfl, hb⟩
  have HW := Lib.hid hb
  clear hb
  go_wp2_with fail
  refine (H2.out _ HW.out).mono ?_
  rintro e w2 ⟨rfl, rfl⟩
  go_wp2_with fail
  refine (H3.out _ HW.out).mono ?_
  rintro e w2 ⟨A, m, T, rfl, hb⟩
  have HW2 := Lib.hid (HW.out.trans (hb.mono HW.out.size))
  clear hb
  go_wp2_with fail
  refine (H4.out _ HW2.out).mono ?_
  rintro e w3 ⟨rfl, hb⟩
  have HW3 := Lib.hid (HW2.out.trans (hb.mono HW2.out.size))
  clear hb
  go_wp2_with fail
  go_ret
  exact ⟨rfl, HW3.out⟩
theorem ops_6n_126_4_01 (op : Int) (w : World) (hK : KTab w) (hA : ATab w) (t1 : decide (op < 0) = false) (t2 : decide (255 < op) = false) (h1 : kd op = 6) (h2 : famB op = false) (h3 : ax op = (126, 4, false, true)) :
    Calls Tryd.prog 6 #[.int .i64 op] w fun e w' => e = .returned (.bool true) ∧ Below w.heap.size w w' := by
  obtain ⟨k1, k2, k3, k4⟩ := ops_hyps op _ _ _ _ _ _ w hK hA h1 h2 h3
  have H1 := Lib.hid k1
  have H2 := Lib.hid k2
  have H3 := Lib.hid k3
  have H4 := Lib.hid k4
  clear k1 k2 k3 k4 h1 h2 h3 hK hA
  go_enter Tryd.func6, Tryd.ntmps6
  go_wp2_with fail
  refine (H1.out _ (Below.refl _ _)).mono ?_
  rintro e w1 ⟨rfl, hb⟩
  have HW := Lib.hid hb
  clear hb
  go_wp2_with fail
  refine (H2.out _ HW.out).mono ?_
  rintro e w2 ⟨rfl, rfl⟩
  go_wp2_with fail
  refine (H3.out _ HW.out).mono ?_
  rintro e w2 ⟨A, m, T, rfl, hb⟩
  have HW2 := Lib.hid (HW.out.trans (hb.mono HW.out.size))
  clear hb
  go_wp2_with fail
  refine (H4.out _ HW2.out).mono ?_
  rintro e w3 ⟨rfl, hb⟩
  have HW3 := Lib.hid (HW2.out.trans (hb.mono HW2.out.size))
  clear hb
  go_wp2_with fail
  go_ret
  exact ⟨rfl, HW3.out⟩
theorem ops_6n_126_4_10 (op : Int) (w : World) (hK : KTab w) (hA : ATab w) (t1 : decide (op < 0) = false) (t2 : decide (255 < op) = false) (h1 : kd op = 6) (h2 : famB op = false) (h3 : ax op = (126, 4, true, false)) :
    Calls Tryd.prog 6 #[.int .i64 op] w fun e w' => e = .returned (.bool true) ∧ Below w.heap.size w w' := by
  obtain ⟨k1, k2, k3, k4⟩ := ops_hyps op _ _ _ _ _ _ w hK hA h1 h2 h3
  have H1 := Lib.hid k1
  have H2 := Lib.hid k2
  have H3 := Lib.hid k3
  have H4 := Lib.hid k4
  clear k1 k2 k3 k4 h1 h2 h3 hK hA
  go_enter Tryd.func6, Tryd.ntmps6
  go_wp2_with fail
  refine (H1.out _ (Below.refl _ _)).mono ?_
  rintro e w1 ⟨rfl, hb⟩
  have HW := Lib.hid hb
  clear hb
  go_wp2_with fail
  refine (H2.out _ HW.out).mono ?_
  rintro e w2 ⟨rfl, rfl⟩
  go_wp2_with fail
  refine (H3.out _ HW.out).mono ?_
  rintro e w2 ⟨A, m, T, rfl, hb⟩
  have HW2 := Lib.hid (HW.out.trans (hb.mono HW.out.size))
  clear hb
  go_wp2_with fail
  refine (H4.out _ HW2.out).mono ?_
  rintro e w3 ⟨rfl, hb⟩
  have HW3 := Lib.hid (HW2.out.trans (hb.mono HW2.out.size))
  clear hb
  go_wp2_with fail
  go_ret
  exact ⟨rfl, HW3.out⟩
theorem ops_6n_126_8_00 (op : Int) (w : World) (hK : KTab w) (hA : ATab w) (t1 : decide (op < 0) = false) (t2 : decide (255 < op) = false) (h1 : kd op = 6) (h2 : famB op = false) (h3 : ax op = (126, 8, false, false)) :
    Calls Tryd.prog 6 #[.int .i64 op] w fun e w' => e = .returned (.bool true) ∧ Below w.heap.size w w' := by
  obtain ⟨k1, k2, k3, k4⟩ := ops_hyps op _ _ _ _ _ _ w hK hA h1 h2 h3
  have H1 := Lib.hid k1
  have H2 := Lib.hid k2
  have H3 := Lib.hid k3
  have H4 := Lib.hid k4
  clear k1 k2 k3 k4 h1 h2 h3 hK hA
  go_enter Tryd.func6, Tryd.ntmps6
  go_wp2_with fail
  refine (H1.out _ (Below.refl _ _)).mono ?_
  rintro e w1 ⟨rfl, hb⟩
  have HW := Lib.hid hb
  clear hb
  go_wp2_with fail
  refine (H2.out _ HW.out).mono ?_
  rintro e w2 ⟨rfl, rfl⟩
  go_wp2_with fail
  refine (H3.out _ HW.out).mono ?_
  rintro e w2 ⟨A, m, T, rfl, hb⟩
  have HW2 := Lib.hid (HW.out.trans (hb.mono HW.out.size))
  clear hb
  go_wp2_with fail
  refine (H4.out _ HW2.out).mono ?_
  rintro e w3 ⟨rfl, hb⟩
  have HW3 := Lib.hid (HW2.out.trans (hb.mono HW2.out.size))
  clear hb
  go_wp2_with fail
  go_ret
  exact ⟨rfl, HW3.out⟩
theorem ops_6n_126_8_01 (op : Int) (w : World) (hK : KTab w) (hA : ATab w) (t1 : decide (op < 0) = false) (t2 : decide (255 < op) = false) (h1 : kd op = 6) (h2 : famB op = false) (h3 : ax op = (126, 8, false, true)) :
    Calls Tryd.prog 6 #[.int .i64 op] w fun e w' => e = .returned (.bool true) ∧ Below w.heap.size w w' := by
  obtain ⟨k1, k2, k3, k4⟩ := ops_hyps op _ _ _ _ _ _ w hK hA h1 h2 h3
  have H1 := Lib.hid k1
  have H2 := Lib.hid k2
  have H3 := Lib.hid k3
  have H4 := Lib.hid k4
  clear k1 k2 k3 k4 h1 h2 h3 hK hA
  go_enter Tryd.func6, Tryd.ntmps6
  go_wp2_with fail
  refine (H1.out _ (Below.refl _ _)).mono ?_
  rintro e w1 ⟨rfl, hb⟩
  have HW := Lib.hid hb
  clear hb
  go_wp2_with fail
  refine (H2.out _ HW.out).mono ?_
  rintro e w2 ⟨rfl, rfl⟩
  go_wp2_with fail
  refine (H3.out _ HW.out).mono ?_
  rintro e w2 ⟨A, m, T, rfl, hb⟩
  have HW2 := Lib.hid (HW.out.trans (hb.mono HW.out.size))
  clear hb
  go_wp2_with fail
  refine (H4.out _ HW2.out).mono ?_
  rintro e w3 ⟨rfl, hb⟩
  have HW3 := Lib.hid (HW2.out.trans (hb.mono HW2.out.size))
  clear hb
  go_wp2_with fail
  go_ret
  exact ⟨rfl, HW3.out⟩
theorem ops_6n_127_1_00 (op : Int) (w : World) (hK : KTab w) (hA : ATab w) (t1 : decide (op < 0) = false) (t2 : decide (255 < op) = false) (h1 : kd op = 6) (h2 : famB op = false) (h3 : ax op = (127, 1, false, false)) :
    Calls Tryd.prog 6 #[.int .i64 op] w fun e w' => e = .returned (.bool true) ∧ Below w.heap.size w w' := by
  obtain ⟨k1, k2, k3, k4⟩ := ops_hyps op _ _ _ _ _ _ w hK hA h1 h2 h3
  have H1 := Lib.hid k1
  have H2 := Lib.hid k2
  have H3 := Lib.hid k3
  have H4 := Lib.hid k4
  clear k1 k2 k3 k4 h1 h2 h3 hK hA
  go_enter Tryd.func6, Tryd.ntmps6
  go_wp2_with fail
  refine (H1.out _ (Below.refl _ _)).mono ?_
  rintro e w1 ⟨rfl, hb⟩
  have HW := Lib.hid hb
  clear hb
  go_wp2_with fail
  refine (H2.out _ HW.out).mono ?_
  rintro e w2 ⟨rfl, rfl⟩
  go_wp2_with fail
  refine (H3.out _ HW.out).mono ?_
  rintro e w2 ⟨A, m, T, rfl, hb⟩
  have HW2 := Lib.hid (HW.out.trans (hb.mono HW.out.size))
  clear hb
  go_wp2_with fail
  refine (H4.out _ HW2.out).mono ?_
  rintro e w3 ⟨rfl, hb⟩
  have HW3 := Lib.hid (HW2.out.trans (hb.mono HW2.out.size))
  clear hb
  go_wp2_with fail
  go_ret
  exact ⟨rfl, HW3.out⟩
theorem ops_6n_127_1_01 (op : Int) (w : World) (hK : KTab w) (hA : ATab w) (t1 : decide (op < 0) = false) (t2 : decide (255 < op) = false) (h1 : kd op = 6) (h2 : famB op = false) (h3 : ax op = (127, 1, false, true)) :
    Calls Tryd.prog 6 #[.int .i64 op] w fun e w' => e = .returned (.bool true) ∧ Below w.heap.size w w' := by
  obtain ⟨k1, k2, k3, k4⟩ := ops_hyps op _ _ _ _ _ _ w hK hA h1 h2 h3
  have H1 := Lib.hid k1
  have H2 := Lib.hid k2
  have H3 := Lib.hid k3
  have H4 := Lib.hid k4
  clear k1 k2 k3 k4 h1 h2 h3 hK hA
  go_enter Tryd.func6, Tryd.ntmps6
  go_wp2_with fail
  refine (H1.out _ (Below.refl _ _)).mono ?_
  rintro e w1 ⟨rfl, hb⟩
  have HW := Lib.hid hb
  clear hb
  go_wp2_with fail
  refine (H2.out _ HW.out).mono ?_
  rintro e w2 ⟨rfl, rfl⟩
  go_wp2_with fail
  refine (H3.out _ HW.out).mono ?_
  rintro e w2 ⟨A, m, T, rfl, hb⟩
  have HW2 := Lib.hid (HW.out.trans (hb.mono HW.out.size))
  clear hb
  go_wp2_with fail
  refine (H4.out _ HW2.out).mono ?_
  rintro e w3 ⟨rfl, hb⟩
  have HW3 := Lib.hid (HW2.out.trans (hb.mono HW2.out.size))
  clear hb
  go_wp2_with fail
  go_ret
  exact ⟨rfl, HW3.out⟩
theorem ops_6n_127_1_10 (op : Int) (w : World) (hK : KTab w) (hA : ATab w) (t1 : decide (op < 0) = false) (t2 : decide (255 < op) = false) (h1 : kd op = 6) (h2 : famB op = false) (h3 : ax op = (127, 1, true, false)) :
    Calls Tryd.prog 6 #[.int .i64 op] w fun e w' => e = .returned (.bool true) ∧ Below w.heap.size w w' := by
  obtain ⟨k1, k2, k3, k4⟩ := ops_hyps op _ _ _ _ _ _ w hK hA h1 h2 h3
  have H1 := Lib.hid k1
  have H2 := Lib.hid k2
  have H3 := Lib.hid k3
  have H4 := Lib.hid k4
  clear k1 k2 k3 k4 h1 h2 h3 hK hA
  go_enter Tryd.func6, Tryd.ntmps6
  go_wp2_with fail
  refine (H1.out _ (Below.refl _ _)).mono ?_
  rintro e w1 ⟨rfl, hb⟩
  have HW := Lib.hid hb
  clear hb
  go_wp2_with fail
  refine (H2.out _ HW.out).mono ?_
  rintro e w2 ⟨rfl, rfl⟩
  go_wp2_with fail
  refine (H3.out _ HW.out).mono ?_
  rintro e w2 ⟨A, m, T, rfl, hb⟩
  have HW2 := Lib.hid (HW.out.trans (hb.mono HW.out.size))
  clear hb
  go_wp2_with fail
  refine (H4.out _ HW2.out).mono ?_
  rintro e w3 ⟨rfl, hb⟩
  have HW3 := Lib.hid (HW2.out.trans (hb.mono HW2.out.size))
  clear hb
  go_wp2_with fail
  go_ret
  exact ⟨rfl, HW3.out⟩
theorem ops_6n_127_2_00 (op : Int) (w : World) (hK : KTab w) (hA : ATab w) (t1 : decide (op < 0) = false) (t2 : decide (255 < op) = false) (h1 : kd op = 6) (h2 : famB op = false) (h3 : ax op = (127, 2, false, false)) :
    Calls Tryd.prog 6 #[.int .i64 op] w fun e w' => e = .returned (.bool true) ∧ Below w.heap.size w w' := by
  obtain ⟨k1, k2, k3, k4⟩ := ops_hyps op _ _ _ _ _ _ w hK hA h1 h2 h3
  have H1 := Lib.hid k1
  have H2 := Lib.hid k2
  have H3 := Lib.hid k3
  have H4 := Lib.hid k4
  clear k1 k2 k3 k4 h1 h2 h3 hK hA
  go_enter Tryd.func6, Tryd.ntmps6
  go_wp2_with fail
  refine (H1.out _ (Below.refl _ _)).mono ?_
  rintro e w1 ⟨rfl, hb⟩
  have HW := Lib.hid hb
  clear hb
  go_wp2_with fail
  refine (H2.out _ HW.out).mono ?_
  rintro e w2 ⟨rfl, rfl⟩
  go_wp2_with fail
  refine (H3.out _ HW.out).mono ?_
  rintro e w2 ⟨A, m, T, rfl, hb⟩
  have HW2 := Lib.hid (HW.out.trans (hb.mono HW.out.size))
  clear hb
  go_wp2_with fail
  refine (H4.out _ HW2.out).mono ?_
  rintro e w3 ⟨rfl, hb⟩
  have HW3 := Lib.hid (HW2.out.trans (hb.mono HW2.out.size))
  clear hb
  go_wp2_with fail
  go_ret
  exact ⟨rfl, HW3.out⟩
theorem ops_6n_127_2_01 (op : Int) (w : World) (hK : KTab w) (hA : ATab w) (t1 : decide (op < 0) = false) (t2 : decide (255 < op) = false) (h1 : kd op = 6) (h2 : famB op = false) (h3 : ax op = (127, 2, false, true)) :
    Calls Tryd.prog 6 #[.int .i64 op] w fun e w' => e = .returned (.bool true) ∧ Below w.heap.size w w' := by
  obtain ⟨k1, k2, k3, k4⟩ := ops_hyps op _ _ _ _ _ _ w hK hA h1 h2 h3
  have H1 := Lib.hid k1
  have H2 := Lib.hid k2
  have H3 := Lib.hid k3
  have H4 := Lib.hid k4
  clear k1 k2 k3 k4 h1 h2 h3 hK hA
  go_enter Tryd.func6, Tryd.ntmps6
  go_wp2_with fail
  refine (H1.out _ (Below.refl _ _)).mono ?_
  rintro e w1 ⟨rfl, hb⟩
  have HW := Lib.hid hb
  clear hb
  go_wp2_with fail
  refine (H2.out _ HW.out).mono ?_
  rintro e w2 ⟨rfl, rfl⟩
  go_wp2_with fail
  refine (H3.out _ HW.out).mono ?_
  rintro e w2 ⟨A, m, T, rfl, hb⟩
  have HW2 := Lib.hid (HW.out.trans (hb.mono HW.out.size))
  clear hb
  go_wp2_with fail
  refine (H4.out _ HW2.out).mono ?_
  rintro e w3 ⟨rfl, hb⟩
  have HW3 := Lib.hid (HW2.out.trans (hb.mono HW2.out.size))
  clear hb
  go_wp2_with fail
  go_ret
  exact ⟨rfl, HW3.out⟩
theorem ops_6n_127_2_10 (op : Int) (w : World) (hK : KTab w) (hA : ATab w) (t1 : decide (op < 0) = false) (t2 : decide (255 < op) = false) (h1 : kd op = 6) (h2 : famB op = false) (h3 : ax op = (127, 2, true, false)) :
    Calls Tryd.prog 6 #[.int .i64 op] w fun e w' => e = .returned (.bool true) ∧ Below w.heap.size w w' := by
  obtain ⟨k1, k2, k3, k4⟩ := ops_hyps op _ _ _ _ _ _ w hK hA h1 h2 h3
  have H1 := Lib.hid k1
  have H2 := Lib.hid k2
  have H3 := Lib.hid k3
  have H4 := Lib.hid k4
  clear k1 k2 k3 k4 h1 h2 h3 hK hA
  go_enter Tryd.func6, Tryd.ntmps6
  go_wp2_with fail
  refine (H1.out _ (Below.refl _ _)).mono ?_
  rintro e w1 ⟨rfl, hb⟩
  have HW := Lib.hid hb
  clear hb
  go_wp2_with fail
  refine (H2.out _ HW.out).mono ?_
  rintro e w2 ⟨rfl, rfl⟩
  go_wp2_with fail
  refine (H3.out _ HW.out).mono ?_
  rintro e w2 ⟨A, m, T, rfl, hb⟩
  have HW2 := Lib.hid (HW.out.trans (hb.mono HW.out.size))
  clear hb
  go_wp2_with fail
  refine (H4.out _ HW2.out).mono ?_
  rintro e w3 ⟨rfl, hb⟩
  have HW3 := Lib.hid (HW2.out.trans (hb.mono HW2.out.size))
  clear hb
  go_wp2_with fail
  go_ret
  exact ⟨rfl, HW3.out⟩
theorem ops_6n_127_4_00 (op : Int) (w : World) (hK : KTab w) (hA : ATab w) (t1 : decide (op < 0) = false) (t2 : decide (255 < op) = false) (h1 : kd op = 6) (h2 : famB op = false) (h3 : ax op = (127, 4, false, false)) :
    Calls Tryd.prog 6 #[.int .i64 op] w fun e w' => e = .returned (.bool true) ∧ Below w.heap.size w w' := by
  obtain ⟨k1, k2, k3, k4⟩ := ops_hyps op _ _ _ _ _ _ w hK hA h1 h2 h3
  have H1 := Lib.hid k1
  have H2 := Lib.hid k2
  have H3 := Lib.hid k3
  have H4 := Lib.hid k4
  clear k1 k2 k3 k4 h1 h2 h3 hK hA
  go_enter Tryd.func6, Tryd.ntmps6
  go_wp2_with fail
  refine (H1.out _ (Below.refl _ _)).mono ?_
  rintro e w1 ⟨rfl, hb⟩
  have HW := Lib.hid hb
  clear hb
  go_wp2_with fail
  refine (H2.out _ HW.out).mono ?_
  rintro e w2 ⟨rfl, rfl⟩
  go_wp2_with fail
  refine (H3.out _ HW.out).mono ?_
  rintro e w2 ⟨A, m, T, rfl, hb⟩
  have HW2 := Lib.hid (HW.out.trans (hb.mono HW.out.size))
  clear hb
  go_wp2_with fail
  refine (H4.out _ HW2.out).mono ?_
  rintro e w3 ⟨rfl, hb⟩
  have HW3 := Lib.hid (HW2.out.trans (hb.mono HW2.out.size))
  clear hb
  go_wp2_with fail
  go_ret
  exact ⟨rfl, HW3.out⟩
theorem ops_6n_127_4_01 (op : Int) (w : World) (hK : KTab w) (hA : ATab w) (t1 : decide (op < 0) = false) (t2 : decide (255 < op) = false) (h1 : kd op = 6) (h2 : famB op = false) (h3 : ax op = (127, 4, false, true)) :
    Calls Tryd.prog 6 #[.int .i64 op] w fun e w' => e = .returned (.bool true) ∧ Below w.heap.size w w' := by
  obtain ⟨k1, k2, k3, k4⟩ := ops_hyps op _ _ _ _ _ _ w hK hA h1 h2 h3
  have H1 := Lib.hid k1
  have H2 := Lib.hid k2
  have H3 := Lib.hid k3
  have H4 := Lib.hid k4
  clear k1 k2 k3 k4 h1 h2 h3 hK hA
  go_enter Tryd.func6, Tryd.ntmps6
  go_wp2_with fail
  refine (H1.out _ (Below.refl _ _)).mono ?_
  rintro e w1 ⟨rfl, hb⟩
  have HW := Lib.hid hb
  clear hb
  go_wp2_with fail
  refine (H2.out _ HW.out).mono ?_
  rintro e w2 ⟨rfl, rfl⟩
  go_wp2_with fail
  refine (H3.out _ HW.out).mono ?_
  rintro e w2 ⟨A, m, T, rfl, hb⟩
  have HW2 := Lib.hid (HW.out.trans (hb.mono HW.out.size))
  clear hb
  go_wp2_with fail
  refine (H4.out _ HW2.out).mono ?_
  rintro e w3 ⟨rfl, hb⟩
  have HW3 := Lib.hid (HW2.out.trans (hb.mono HW2.out.size))
  clear hb
  go_wp2_with fail
  go_ret
  exact ⟨rfl, HW3.out⟩
theorem famB_kd {op : Int} (h : kd op ≠ 1) : famB op = false := by
  unfold famB
  apply decide_eq_false
  intro g
  apply h
  unfold kd
  iterate 9 (rw [if_neg (by omega)])
  rw [if_pos (by omega)]
theorem ops_law (op : Int) (w : World) (hK : KTab w) (hA : ATab w) : Calls Tryd.prog 6 #[.int .i64 op] w fun e w' => e = .returned (.bool true) ∧ Below w.heap.size w w' := by
  have hr := kd_range op
  have hc : kd op ≠ 0 → decide (op < 0) = false ∧ decide (255 < op) = false := fun h => by have := kd_code h; exact ⟨by simp; omega, by simp; omega⟩
  by_cases h6 : kd op = 6
  · have e : op = 40 ∨ op = 41 ∨ op = 44 ∨ op = 45 ∨ op = 46 ∨ op = 47 ∨ op = 48 ∨ op = 49 ∨ op = 50 ∨ op = 51 ∨ op = 52 ∨ op = 53 ∨ op = 54 ∨ op = 55 ∨ op = 58 ∨ op = 59 ∨ op = 60 ∨ op = 61 ∨ op = 62 := by
      by_cases g : op = 40 ∨ op = 41 ∨ (44 ≤ op ∧ op ≤ 55) ∨ (58 ≤ op ∧ op ≤ 62)
      · omega
      · exfalso
        unfold kd at h6
        repeat' (first | (split at h6; omega) | omega)
    obtain ⟨t1, t2⟩ := hc (by rw [h6]; decide)
    rcases e with rfl | rfl | rfl | rfl | rfl | rfl | rfl | rfl | rfl | rfl | rfl | rfl | rfl | rfl | rfl | rfl | rfl | rfl | rfl
    · exact ops_6n_127_4_00 _ w hK hA t1 t2 rfl rfl rfl
    · exact ops_6n_126_8_00 _ w hK hA t1 t2 rfl rfl rfl
    · exact ops_6n_127_1_10 _ w hK hA t1 t2 rfl rfl rfl
    · exact ops_6n_127_1_00 _ w hK hA t1 t2 rfl rfl rfl
    · exact ops_6n_127_2_10 _ w hK hA t1 t2 rfl rfl rfl
    · exact ops_6n_127_2_00 _ w hK hA t1 t2 rfl rfl rfl
    · exact ops_6n_126_1_10 _ w hK hA t1 t2 rfl rfl rfl
    · exact ops_6n_126_1_00 _ w hK hA t1 t2 rfl rfl rfl
    · exact ops_6n_126_2_10 _ w hK hA t1 t2 rfl rfl rfl
    · exact ops_6n_126_2_00 _ w hK hA t1 t2 rfl rfl rfl
    · exact ops_6n_126_4_10 _ w hK hA t1 t2 rfl rfl rfl
    · exact ops_6n_126_4_00 _ w hK hA t1 t2 rfl rfl rfl
    · exact ops_6n_127_4_01 _ w hK hA t1 t2 rfl rfl rfl
    · exact ops_6n_126_8_01 _ w hK hA t1 t2 rfl rfl rfl
    · exact ops_6n_127_1_01 _ w hK hA t1 t2 rfl rfl rfl
    · exact ops_6n_127_2_01 _ w hK hA t1 t2 rfl rfl rfl
    · exact ops_6n_126_1_01 _ w hK hA t1 t2 rfl rfl rfl
    · exact ops_6n_126_2_01 _ w hK hA t1 t2 rfl rfl rfl
    · exact ops_6n_126_4_01 _ w hK hA t1 t2 rfl rfl rfl
  · have hx := ax_none h6
    have hk : kd op = 0 ∨ kd op = 1 ∨ kd op = 2 ∨ kd op = 3 ∨ kd op = 4 ∨ kd op = 5 ∨ kd op = 7 ∨ kd op = 8 ∨ kd op = 9 := by omega
    rcases hk with hk | hk | hk | hk | hk | hk | hk | hk | hk
    · exact ops_0n_0_0_00 op w hK hA hk (famB_kd (by rw [hk]; decide)) hx
    · obtain ⟨t1, t2⟩ := hc (by rw [hk]; decide)
      cases hf : famB op with
      | true => exact ops_1y_0_0_00 op w hK hA t1 t2 hk hf hx
      | false => exact ops_1n_0_0_00 op w hK hA t1 t2 hk hf hx
    · obtain ⟨t1, t2⟩ := hc (by rw [hk]; decide)
      exact ops_2n_0_0_00 op w hK hA t1 t2 hk (famB_kd (by rw [hk]; decide)) hx
    · obtain ⟨t1, t2⟩ := hc (by rw [hk]; decide)
      exact ops_3n_0_0_00 op w hK hA t1 t2 hk (famB_kd (by rw [hk]; decide)) hx
    · obtain ⟨t1, t2⟩ := hc (by rw [hk]; decide)
      exact ops_4n_0_0_00 op w hK hA t1 t2 hk (famB_kd (by rw [hk]; decide)) hx
    · obtain ⟨t1, t2⟩ := hc (by rw [hk]; decide)
      exact ops_5n_0_0_00 op w hK hA t1 t2 hk (famB_kd (by rw [hk]; decide)) hx
    · obtain ⟨t1, t2⟩ := hc (by rw [hk]; decide)
      exact ops_7n_0_0_00 op w hK hA t1 t2 hk (famB_kd (by rw [hk]; decide)) hx
    · obtain ⟨t1, t2⟩ := hc (by rw [hk]; decide)
      exact ops_8n_0_0_00 op w hK hA t1 t2 hk (famB_kd (by rw [hk]; decide)) hx
    · obtain ⟨t1, t2⟩ := hc (by rw [hk]; decide)
      exact ops_9n_0_0_00 op w hK hA t1 t2 hk (famB_kd (by rw [hk]; decide)) hx
end Go.Proofs.YtmjimijolfjhmaaDoor.Ins
