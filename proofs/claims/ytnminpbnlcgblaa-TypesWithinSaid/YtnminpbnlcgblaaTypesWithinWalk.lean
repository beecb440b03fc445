/- TypesWithin walked: limits keep to themselves; what keeps to what keeps to others, keeps to these. -/
import Derived.Test.YtnminpbnlcgblaaTypAwake
import Derived.Test.YtnminpbnlcgblaaTypWith2
namespace Go.Proofs.Ytnminpbnlcgblaa.Typ
open Go.RowKit
set_option maxRecDepth 100000
set_option maxHeartbeats 2000000

theorem wi_self (a b : Int) (h : Bool) : wi a b h a b h = true := by
  unfold wi
  cases h <;> simp
theorem wi_least (a b : Int) (h : Bool) : wi a b h a 0 false = true := by
  unfold wi
  simp
theorem wi_trans {a0 a1 b0 b1 c0 c1 : Int} {ha hb hc : Bool} (h1 : wi a0 a1 ha b0 b1 hb = true) (h2 : wi b0 b1 hb c0 c1 hc = true) : wi a0 a1 ha c0 c1 hc = true := by
  unfold wi at *
  by_cases g1 : b0 ≤ a0
  · by_cases g2 : c0 ≤ b0
    · rw [decide_eq_true g1] at h1
      rw [decide_eq_true g2] at h2
      rw [decide_eq_true (show c0 ≤ a0 by omega)]
      cases hc with
      | false => rfl
      | true =>
        cases hb with
        | false => cases h2
        | true =>
          cases ha with
          | false => cases h1
          | true =>
            have e1 : a1 ≤ b1 := by simpa using h1
            have e2 : b1 ≤ c1 := by simpa using h2
            simp
            omega
    · rw [decide_eq_false g2] at h2; cases h2
  · rw [decide_eq_false g1] at h1; cases h1
theorem within_core (A B C : Value) (c0 : Int) (w : World) (R1 R2 R3 : Bool) (hR : R1 = true → R2 = true → R3 = true) (a0 a1 b0 b1 d0 d1 : Int) (ha hb hd : Bool) (hc : c0 = a0)
    (eA : A = lv a0 a1 ha) (eB : B = lv b0 b1 hb) (eC : C = lv d0 d1 hd)
    (h1 : ∀ W, Calls Try.prog 25 #[A, B] W fun e w' => e = .returned (.bool R1) ∧ Below W.heap.size W w')
    (h2 : ∀ W, Calls Try.prog 25 #[B, C] W fun e w' => e = .returned (.bool R2) ∧ Below W.heap.size W w')
    (h3 : ∀ W, Calls Try.prog 25 #[A, C] W fun e w' => e = .returned (.bool R3) ∧ Below W.heap.size W w')
    (h4 : ∀ W, Calls Try.prog 25 #[A, A] W fun e w' => e = .returned (.bool true) ∧ Below W.heap.size W w')
    (h5 : ∀ W, Calls Try.prog 25 #[A, lv c0 0 false] W fun e w' => e = .returned (.bool true) ∧ Below W.heap.size W w') :
    Calls Try.prog 6 #[A, B, C] w fun e w' => e = .returned (.bool true) ∧ Below w.heap.size w w' := by
  subst eA eB eC hc
  unfold lv at *
  have H1 := Lib.hid h1
  have H2 := Lib.hid h2
  have H3 := Lib.hid h3
  have H4 := Lib.hid h4
  have H5 := Lib.hid h5
  have HR := Lib.hid hR
  clear h1 h2 h3 h4 h5 hR
  have W0 : Below w.heap.size w (((w.alloc (.cells #[.int .i64 c0, .int .i64 a1, .bool ha] 26)).alloc (.cells #[.int .i64 b0, .int .i64 b1, .bool hb] 26)).alloc (.cells #[.int .i64 d0, .int .i64 d1, .bool hd] 26)) := (((Below.refl _ _).alloc (Nat.le_refl _) _).alloc (by simp) _).alloc (by simp; omega) _
  have LA := (LvAt.new w c0 a1 ha 26).keep (((Below.refl _ _).alloc (Nat.le_refl _) (.cells #[.int .i64 b0, .int .i64 b1, .bool hb] 26)).alloc (by simp) (.cells #[.int .i64 d0, .int .i64 d1, .bool hd] 26))
  have LB := (LvAt.at_ (w.alloc (.cells #[.int .i64 c0, .int .i64 a1, .bool ha] 26)) (w.heap.size + 1) b0 b1 hb 26 (by simp)).keep ((Below.refl _ _).alloc (Nat.le_refl _) (.cells #[.int .i64 d0, .int .i64 d1, .bool hd] 26))
  have LC := LvAt.at_ ((w.alloc (.cells #[.int .i64 c0, .int .i64 a1, .bool ha] 26)).alloc (.cells #[.int .i64 b0, .int .i64 b1, .bool hb] 26)) (w.heap.size + 2) d0 d1 hd 26 (by simp)
  have HW0 := Lib.hid W0
  have HLA := Lib.hid LA
  have HLB := Lib.hid LB
  have HLC := Lib.hid LC
  clear W0 LA LB LC
  go_enter Try.func6, Try.ntmps6
  go_wp2_with fail
  refine (awake_any _).mono ?_
  rintro e w1 ⟨rfl, hb1⟩
  have HW1 := Lib.hid (HW0.out.trans (hb1.mono HW0.out.size))
  have HLA := Lib.hid (HLA.out.keep hb1)
  have HLB := Lib.hid (HLB.out.keep hb1)
  have HLC := Lib.hid (HLC.out.keep hb1)
  clear hb1
  obtain ⟨_, a0_, a1_, a2_⟩ := HLA.out
  obtain ⟨_, b0_, b1_, b2_⟩ := HLB.out
  obtain ⟨_, c0_, c1_, c2_⟩ := HLC.out
  cases R1 with
  | false =>
    go_wp2_with fail
    refine (H1.out _).mono ?_
    rintro e w2 ⟨rfl, hb⟩
    have HW1 := Lib.hid (HW1.out.trans (hb.mono HW1.out.size))
    have HLA := Lib.hid (HLA.out.keep hb)
    have HLB := Lib.hid (HLB.out.keep hb)
    have HLC := Lib.hid (HLC.out.keep hb)
    clear a0_ a1_ a2_ b0_ b1_ b2_ c0_ c1_ c2_
    clear hb
    obtain ⟨_, a0_, a1_, a2_⟩ := HLA.out
    obtain ⟨_, b0_, b1_, b2_⟩ := HLB.out
    obtain ⟨_, c0_, c1_, c2_⟩ := HLC.out
    go_wp2_with fail
    refine (H4.out _).mono ?_
    rintro e w3 ⟨rfl, hb⟩
    have HW1 := Lib.hid (HW1.out.trans (hb.mono HW1.out.size))
    have HLA := Lib.hid (HLA.out.keep hb)
    have HLB := Lib.hid (HLB.out.keep hb)
    have HLC := Lib.hid (HLC.out.keep hb)
    clear a0_ a1_ a2_ b0_ b1_ b2_ c0_ c1_ c2_
    clear hb
    obtain ⟨_, a0_, a1_, a2_⟩ := HLA.out
    obtain ⟨_, b0_, b1_, b2_⟩ := HLB.out
    obtain ⟨_, c0_, c1_, c2_⟩ := HLC.out
    go_wp2_with fail
    refine (H5.out _).mono ?_
    rintro e w4 ⟨rfl, hb⟩
    have HW1 := Lib.hid (HW1.out.trans (hb.mono HW1.out.size))
    have HLA := Lib.hid (HLA.out.keep hb)
    have HLB := Lib.hid (HLB.out.keep hb)
    have HLC := Lib.hid (HLC.out.keep hb)
    clear a0_ a1_ a2_ b0_ b1_ b2_ c0_ c1_ c2_
    clear hb
    obtain ⟨_, a0_, a1_, a2_⟩ := HLA.out
    obtain ⟨_, b0_, b1_, b2_⟩ := HLB.out
    obtain ⟨_, c0_, c1_, c2_⟩ := HLC.out
    go_wp2_with fail
    go_ret
    exact ⟨rfl, HW1.out⟩
  | true =>
    cases R2 with
    | false =>
      go_wp2_with fail
      refine (H1.out _).mono ?_
      rintro e w5 ⟨rfl, hb⟩
      have HW1 := Lib.hid (HW1.out.trans (hb.mono HW1.out.size))
      have HLA := Lib.hid (HLA.out.keep hb)
      have HLB := Lib.hid (HLB.out.keep hb)
      have HLC := Lib.hid (HLC.out.keep hb)
      clear a0_ a1_ a2_ b0_ b1_ b2_ c0_ c1_ c2_
      clear hb
      obtain ⟨_, a0_, a1_, a2_⟩ := HLA.out
      obtain ⟨_, b0_, b1_, b2_⟩ := HLB.out
      obtain ⟨_, c0_, c1_, c2_⟩ := HLC.out
      go_wp2_with fail
      refine (H2.out _).mono ?_
      rintro e w6 ⟨rfl, hb⟩
      have HW1 := Lib.hid (HW1.out.trans (hb.mono HW1.out.size))
      have HLA := Lib.hid (HLA.out.keep hb)
      have HLB := Lib.hid (HLB.out.keep hb)
      have HLC := Lib.hid (HLC.out.keep hb)
      clear a0_ a1_ a2_ b0_ b1_ b2_ c0_ c1_ c2_
      clear hb
      obtain ⟨_, a0_, a1_, a2_⟩ := HLA.out
      obtain ⟨_, b0_, b1_, b2_⟩ := HLB.out
      obtain ⟨_, c0_, c1_, c2_⟩ := HLC.out
      go_wp2_with fail
      refine (H4.out _).mono ?_
      rintro e w7 ⟨rfl, hb⟩
      have HW1 := Lib.hid (HW1.out.trans (hb.mono HW1.out.size))
      have HLA := Lib.hid (HLA.out.keep hb)
      have HLB := Lib.hid (HLB.out.keep hb)
      have HLC := Lib.hid (HLC.out.keep hb)
      clear a0_ a1_ a2_ b0_ b1_ b2_ c0_ c1_ c2_
      clear hb
      obtain ⟨_, a0_, a1_, a2_⟩ := HLA.out
      obtain ⟨_, b0_, b1_, b2_⟩ := HLB.out
      obtain ⟨_, c0_, c1_, c2_⟩ := HLC.out
      go_wp2_with fail
      refine (H5.out _).mono ?_
      rintro e w8 ⟨rfl, hb⟩
      have HW1 := Lib.hid (HW1.out.trans (hb.mono HW1.out.size))
      have HLA := Lib.hid (HLA.out.keep hb)
      have HLB := Lib.hid (HLB.out.keep hb)
      have HLC := Lib.hid (HLC.out.keep hb)
      clear a0_ a1_ a2_ b0_ b1_ b2_ c0_ c1_ c2_
      clear hb
      obtain ⟨_, a0_, a1_, a2_⟩ := HLA.out
      obtain ⟨_, b0_, b1_, b2_⟩ := HLB.out
      obtain ⟨_, c0_, c1_, c2_⟩ := HLC.out
      go_wp2_with fail
      go_ret
      exact ⟨rfl, HW1.out⟩
    | true =>
      rw [HR.out rfl rfl] at H3
      go_wp2_with fail
      refine (H1.out _).mono ?_
      rintro e w9 ⟨rfl, hb⟩
      have HW1 := Lib.hid (HW1.out.trans (hb.mono HW1.out.size))
      have HLA := Lib.hid (HLA.out.keep hb)
      have HLB := Lib.hid (HLB.out.keep hb)
      have HLC := Lib.hid (HLC.out.keep hb)
      clear a0_ a1_ a2_ b0_ b1_ b2_ c0_ c1_ c2_
      clear hb
      obtain ⟨_, a0_, a1_, a2_⟩ := HLA.out
      obtain ⟨_, b0_, b1_, b2_⟩ := HLB.out
      obtain ⟨_, c0_, c1_, c2_⟩ := HLC.out
      go_wp2_with fail
      refine (H2.out _).mono ?_
      rintro e w10 ⟨rfl, hb⟩
      have HW1 := Lib.hid (HW1.out.trans (hb.mono HW1.out.size))
      have HLA := Lib.hid (HLA.out.keep hb)
      have HLB := Lib.hid (HLB.out.keep hb)
      have HLC := Lib.hid (HLC.out.keep hb)
      clear a0_ a1_ a2_ b0_ b1_ b2_ c0_ c1_ c2_
      clear hb
      obtain ⟨_, a0_, a1_, a2_⟩ := HLA.out
      obtain ⟨_, b0_, b1_, b2_⟩ := HLB.out
      obtain ⟨_, c0_, c1_, c2_⟩ := HLC.out
      go_wp2_with fail
      refine (H3.out _).mono ?_
      rintro e w11 ⟨rfl, hb⟩
      have HW1 := Lib.hid (HW1.out.trans (hb.mono HW1.out.size))
      have HLA := Lib.hid (HLA.out.keep hb)
      have HLB := Lib.hid (HLB.out.keep hb)
      have HLC := Lib.hid (HLC.out.keep hb)
      clear a0_ a1_ a2_ b0_ b1_ b2_ c0_ c1_ c2_
      clear hb
      obtain ⟨_, a0_, a1_, a2_⟩ := HLA.out
      obtain ⟨_, b0_, b1_, b2_⟩ := HLB.out
      obtain ⟨_, c0_, c1_, c2_⟩ := HLC.out
      go_wp2_with fail
      refine (H4.out _).mono ?_
      rintro e w12 ⟨rfl, hb⟩
      have HW1 := Lib.hid (HW1.out.trans (hb.mono HW1.out.size))
      have HLA := Lib.hid (HLA.out.keep hb)
      have HLB := Lib.hid (HLB.out.keep hb)
      have HLC := Lib.hid (HLC.out.keep hb)
      clear a0_ a1_ a2_ b0_ b1_ b2_ c0_ c1_ c2_
      clear hb
      obtain ⟨_, a0_, a1_, a2_⟩ := HLA.out
      obtain ⟨_, b0_, b1_, b2_⟩ := HLB.out
      obtain ⟨_, c0_, c1_, c2_⟩ := HLC.out
      go_wp2_with fail
      refine (H5.out _).mono ?_
      rintro e w13 ⟨rfl, hb⟩
      have HW1 := Lib.hid (HW1.out.trans (hb.mono HW1.out.size))
      have HLA := Lib.hid (HLA.out.keep hb)
      have HLB := Lib.hid (HLB.out.keep hb)
      have HLC := Lib.hid (HLC.out.keep hb)
      clear a0_ a1_ a2_ b0_ b1_ b2_ c0_ c1_ c2_
      clear hb
      obtain ⟨_, a0_, a1_, a2_⟩ := HLA.out
      obtain ⟨_, b0_, b1_, b2_⟩ := HLB.out
      obtain ⟨_, c0_, c1_, c2_⟩ := HLC.out
      go_wp2_with fail
      go_ret
      exact ⟨rfl, HW1.out⟩
theorem within_law (a0 a1 b0 b1 d0 d1 : Int) (ha hb hd : Bool) (w : World) :
    Calls Try.prog 6 #[lv a0 a1 ha, lv b0 b1 hb, lv d0 d1 hd] w fun e w' => e = .returned (.bool true) ∧ Below w.heap.size w w' := by
  refine within_core _ _ _ a0 w _ _ _ wi_trans a0 a1 b0 b1 d0 d1 ha hb hd rfl rfl rfl rfl (fun W => within_any a0 a1 b0 b1 ha hb W) (fun W => within_any b0 b1 d0 d1 hb hd W) (fun W => within_any a0 a1 d0 d1 ha hd W) (fun W => ?_) (fun W => ?_)
  · have := within_any a0 a1 a0 a1 ha ha W
    rwa [wi_self] at this
  · have := within_any a0 a1 a0 0 ha false W
    rwa [wi_least] at this
end Go.Proofs.Ytnminpbnlcgblaa.Typ
