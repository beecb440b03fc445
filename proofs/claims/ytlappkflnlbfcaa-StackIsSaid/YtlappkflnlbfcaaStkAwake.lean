/- The law's example, walked: it is true. -/
import Derived.Test.YtlappkflnlbfcaaStkGrown
namespace Go.Proofs.Ytlappkflnlbfcaa.Stk
open Go.RowKit Row9
set_option maxRecDepth 100000
set_option maxHeartbeats 4000000
set_option linter.unusedVariables false
def exS : Stk := ⟨[], [⟨2, [127], 0, false⟩]⟩
def exT : Stk := ⟨[], [⟨2, [127], 0, true⟩]⟩
theorem ex_open : openS none_ 2 [127] = (exS, 0) := by rfl
theorem ex_kill : killS exS = (exT, 0) := by rfl
theorem ex_want : wantS exT [127] = (exT, 0) := by rfl
theorem ex_no : wantS exS [127] = (none_, 5) := by rfl
theorem byte_new (w : World) (x : Int) (h0 : 0 ≤ x) (h1 : x < 256) : Row elB (w.alloc (.cells #[.int .u8 x] 5)) (.slice (some ⟨w.heap.size, 0, none⟩) 1 1) [x] := by
  refine ⟨⟨_, 1, rfl, Nat.le_refl _, by omega, fun _ => ⟨w.heap.size, 0, rfl, by rw [size_new]; omega, fun j p hp => ?_⟩⟩, fun p hp => ?_⟩
  · have hj : j = 0 := by
      have := (List.getElem?_eq_some_iff.1 hp).1
      simp at this
      omega
    subst hj
    obtain rfl : x = p := by simpa using hp
    exact newG elB w x
  · obtain rfl := List.mem_singleton.1 hp
    exact ⟨h0, h1⟩
theorem awake_any (w : World) : Calls Try.prog 4 #[] w fun e w' => e = .returned (.bool true) ∧ Below w.heap.size w w' := by
  have H1 : Hid (Calls Try.prog 15 #[.agg #[.slice none 0 0, .slice none 0 0], .int .i64 2, .slice (some ⟨w.heap.size, 0, none⟩) 1 1] (w.alloc (.cells #[.int .u8 127] 5)) (OpTold (exS, 0) (w.alloc (.cells #[.int .u8 127] 5)))) := by
    show Calls _ _ _ _ _
    have := Open_st (op := 2) (zS_is (w.alloc (.cells #[.int .u8 127] 5))) (byte_new w 127 (by decide) (by decide)) (by unfold w64; omega) (by decide) (by decide) (by decide)
    rw [ex_open] at this
    exact this
  have HB1 := Lib.hid (below_new w (.cells #[.int .u8 127] 5))
  go_enter Try.func4, Try.ntmps4
  go_wp2_with fail
  refine H1.out.mono ?_
  rintro e w1 hen
  obtain ⟨P1, n1, c1, Q1, m1, d1, rfl, hv, hb⟩ := hen.of
  have HV1 := Lib.hid (hv.keep (below_new w1 (.cells #[.slice P1 n1 c1, .slice Q1 m1 d1] 30)))
  have HB2 := Lib.hid ((HB1.out.trans (hb.mono HB1.out.size)).trans ((below_new w1 (.cells #[.slice P1 n1 c1, .slice Q1 m1 d1] 30)).mono (HB1.out.trans (hb.mono HB1.out.size)).size))
  have HX1 := Lib.hid (heap_new w1 (.cells #[.slice P1 n1 c1, .slice Q1 m1 d1] 30))
  clear hen hv hb H1
  go_wp2_with fail
  generalize w1.alloc (.cells #[.slice P1 n1 c1, .slice Q1 m1 d1] 30) = w2 at *
  obtain ⟨x1, hx1⟩ : ∃ x, w1.heap.size = x := ⟨_, rfl⟩
  rw [hx1] at HX1
  simp only [hx1]
  clear hx1
  have H2 := Lib.hid (Kill_st HV1.out (by decide) (by decide))
  rw [ex_kill] at H2
  refine H2.out.mono ?_
  rintro e w3 hen
  obtain ⟨P2, n2, c2, Q2, m2, d2, rfl, hv, hb⟩ := hen.of
  have HK2 := Lib.hid (hb.trans ((below_new w3 (.cells #[.slice P2 n2 c2, .slice Q2 m2 d2] 30)).mono hb.size))
  have HV2 := Lib.hid (hv.keep (below_new w3 (.cells #[.slice P2 n2 c2, .slice Q2 m2 d2] 30)))
  have HV1' := Lib.hid (HV1.out.keep HK2.out)
  have HB3 := Lib.hid (HB2.out.trans (HK2.out.mono HB2.out.size))
  have HX1' := Lib.hid ((HK2.out.block x1 (lt_of_heap HX1.out)).trans HX1.out)
  have HX2 := Lib.hid (heap_new w3 (.cells #[.slice P2 n2 c2, .slice Q2 m2 d2] 30))
  clear hen hv hb H2
  go_wp2_with fail
  have HS3 := Lib.hid (size_new w3 (.cells #[.slice P2 n2 c2, .slice Q2 m2 d2] 30))
  generalize w3.alloc (.cells #[.slice P2 n2 c2, .slice Q2 m2 d2] 30) = w4 at *
  obtain ⟨x2, hx2⟩ : ∃ x, w3.heap.size = x := ⟨_, rfl⟩
  rw [hx2] at HX2 HS3
  simp only [hx2]
  clear hx2
  have HB4 := Lib.hid (below_new w4 (.cells #[.int .u8 127] 5))
  have H3 := Lib.hid (Want_st (HV2.out.keep HB4.out) (byte_new w4 127 (by decide) (by decide)) (by decide) (by decide) (by decide))
  rw [ex_want, HS3.out] at H3
  refine H3.out.mono ?_
  rintro e w5 hen
  obtain ⟨P3, n3, c3, Q3, m3, d3, rfl, hv, hb⟩ := hen.of
  have HK5 := Lib.hid ((HB4.out.trans (hb.mono HB4.out.size)).trans ((below_new w5 (.cells #[.slice P3 n3 c3, .slice Q3 m3 d3] 30)).mono (HB4.out.trans (hb.mono HB4.out.size)).size))
  have HV1'' := Lib.hid (HV1'.out.keep HK5.out)
  have HV2' := Lib.hid (HV2.out.keep HK5.out)
  have HB5 := Lib.hid (HB3.out.trans (HK5.out.mono HB3.out.size))
  have HX1'' := Lib.hid ((HK5.out.block x1 (lt_of_heap HX1'.out)).trans HX1'.out)
  have HX2' := Lib.hid ((HK5.out.block x2 (lt_of_heap HX2.out)).trans HX2.out)
  have hK5 := HB4.out.trans (hb.mono HB4.out.size)
  have y1 := ((hK5.block x1 (lt_of_heap HX1'.out)).trans HX1'.out)
  have l1 := lt_of_heap y1
  obtain ⟨a0, _⟩ := cells_at y1 0
  obtain ⟨a1, _⟩ := cells_at y1 1
  simp only [List.getElem?_toArray, List.getElem?_cons_zero, List.getElem?_cons_succ] at a0 a1
  clear hen hv hb H3 hK5 y1
  go_wp2_with fail
  clear a0 a1 l1
  have HS5 := Lib.hid (size_new w5 (.cells #[.slice P3 n3 c3, .slice Q3 m3 d3] 30))
  generalize w5.alloc (.cells #[.slice P3 n3 c3, .slice Q3 m3 d3] 30) = w6 at *
  obtain ⟨x3, hx3⟩ : ∃ x, w5.heap.size = x := ⟨_, rfl⟩
  rw [hx3] at HS5
  simp only [hx3]
  clear hx3
  have HB6 := Lib.hid (below_new w6 (.cells #[.int .u8 127] 5))
  have H4 := Lib.hid (Want_st (HV1''.out.keep HB6.out) (byte_new w6 127 (by decide) (by decide)) (by decide) (by decide) (by decide))
  rw [ex_no, HS5.out] at H4
  refine H4.out.mono ?_
  rintro e w7 hen
  obtain ⟨P4, n4, c4, Q4, m4, d4, rfl, hv, hb⟩ := hen.of
  have HK7 := Lib.hid ((HB6.out.trans (hb.mono HB6.out.size)))
  have HV2'' := Lib.hid (HV2'.out.keep HK7.out)
  have HB7 := Lib.hid (HB5.out.trans (HK7.out.mono HB5.out.size))
  have y2 := ((HK7.out.block x2 (lt_of_heap HX2'.out)).trans HX2'.out)
  have l2 := lt_of_heap y2
  obtain ⟨a0, _⟩ := cells_at y2 0
  obtain ⟨a1, _⟩ := cells_at y2 1
  simp only [List.getElem?_toArray, List.getElem?_cons_zero, List.getElem?_cons_succ] at a0 a1
  obtain ⟨aa, cc0, l0, e9, hra, hrc, hml⟩ := HV2''.out
  simp only [Value.agg.injEq, Array.mk.injEq, List.cons.injEq, and_true] at e9
  obtain ⟨rfl, rfl⟩ := e9
  obtain ⟨p0, rfl⟩ : ∃ p, l0 = [p] := by
    have := congrArg List.length hml
    match l0, this with
    | [p], _ => exact ⟨p, rfl⟩
  have hp0 : p0.1 = ⟨2, [127], 0, true⟩ := by simpa [exT] using hml
  obtain ⟨g, off, rfl, hg, k0, k1, k2, k3, hO⟩ := ctl_at hrc (j := 0) rfl
  rw [hp0] at k3
  have e10 : m2 = 1 := by
    obtain ⟨A, c, e, _⟩ := hrc.form
    injection e
  subst e10
  have k3 : w7.cell? ⟨g, off + 3, none⟩ = some (.bool true) := by
    have : off + 0 * 4 + 3 = off + 3 := by omega
    rw [this] at k3
    exact k3
  have HBf := Lib.hid (HB7.out.trans ((below_new w7 (.cells #[.slice P4 n4 c4, .slice Q4 m4 d4] 30)).mono HB7.out.size))
  clear hen hv hb H4 y2 hra hrc hml hp0 k0 k1 k2 hO
  go_wp2_with fail
  exact bodyPost_ret (v := .bool true) (by simp [results, Try.results4, go_sem]) rfl ⟨rfl, HBf.out⟩
end Go.Proofs.Ytlappkflnlbfcaa.Stk
