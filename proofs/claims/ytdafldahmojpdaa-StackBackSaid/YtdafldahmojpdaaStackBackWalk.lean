/- StackBack: there and back: any acts, any types. -/
import Derived.Test.YtdafldahmojpdaaStackBackP
namespace Go.Proofs.Ytdafldahmojpdaa.Stk
open Go.RowKit Row9
set_option maxRecDepth 100000
set_option maxHeartbeats 8000000
set_option linter.unusedVariables false
theorem back_any {v u : Value} {l : List ActV} {mm : List Int} {op : Int} {w : World} (h : Row elA w v l) (hu : Row elB w u mm) (hop : w64 op) : Calls Try.prog 5 #[v, u, .int .i64 op] w (Yes w) := by
  by_cases hall : fewL (l.map (·.1)) = true ∧ ¬ 20 < mm.length ∧ mm.any noT = false
  · obtain ⟨hf, hm, hno⟩ := hall
    by_cases hcs : (grow (l.map (·.1))).cs = []
    · cases mm with
      | nil => exact back_no_nil h hu hop hf hm hno hcs
      | cons b r =>
        by_cases hb : b = 0
        · subst hb
          exact back_no_zero h hu hop hf hm hno hcs
        · exact back_no_first h hu hop hf hm hno hcs hb
    · cases mm with
      | nil => exact back_yes_nil h hu hop hf hm hno hcs
      | cons b r =>
        by_cases hb : b = 0
        · subst hb
          exact back_yes_zero h hu hop hf hm hno hcs
        · exact back_yes_first h hu hop hf hm hno hcs hb
  have HALL := Lib.hid hall
  have HH := Lib.hid h
  have HU := Lib.hid hu
  have HA := Lib.hid (awake_any w)
  obtain ⟨A, c, rfl, _⟩ := h.form
  obtain ⟨Pm, cm, rfl, _⟩ := hu.form
  obtain ⟨n, hn⟩ : ∃ n, l.length = n := ⟨_, rfl⟩
  obtain ⟨nm, hnm⟩ : ∃ n, mm.length = n := ⟨_, rfl⟩
  rw [hn] at HH ⊢
  rw [hnm] at HU HALL ⊢
  have HNM := Lib.hid hnm
  clear h hu hn hnm hall hop
  go_enter Try.func5, Try.ntmps5
  go_wp2_with fail
  refine HA.out.mono ?_
  rintro e w1 ⟨rfl, hb⟩
  have HB1 := Lib.hid hb
  have HH1 := Lib.hid (HH.out.keep hb)
  have HU1 := Lib.hid (HU.out.keep hb)
  clear hb HA
  go_wp2_with fail
  refine (few_any HH1.out).mono ?_
  rintro e w2 ⟨rfl, rfl⟩
  cases hf : fewL (l.map (·.1)) with
  | false =>
    go_wp2_with fail
    exact bodyPost_ret (v := .bool true) (by simp [results, Try.results5, go_sem]) rfl ⟨rfl, HB1.out⟩
  | true =>
    by_cases hm20 : 20 < nm
    · have t1 : decide ((20 : Int) < (nm : Int)) = true := decide_eq_true (by omega)
      have t1' : decide (20 < nm) = true := decide_eq_true hm20
      go_wp2_with fail
      exact bodyPost_ret (v := .bool true) (by simp [results, Try.results5, go_sem]) rfl ⟨rfl, HB1.out⟩
    · have hno : mm.any noT = true := by
        cases hno : mm.any noT with
        | true => rfl
        | false => exact absurd ⟨hf, hm20, hno⟩ HALL.out
      have t1 : decide ((20 : Int) < (nm : Int)) = false := decide_eq_false (by omega)
      have t1' : decide (20 < nm) = false := decide_eq_false hm20
      have HM20 : Hid (mm.length ≤ 400000) := by show _ ≤ _; rw [HNM.out]; omega
      have HG := Lib.hid (grown_any HH1.out hf)
      have HS := Lib.hid (grow_sane (l.map (·.1)))
      have HLE := Lib.hid (grow_le hf)
      obtain ⟨s, hs⟩ : ∃ s, grow (l.map (·.1)) = s := ⟨_, rfl⟩
      rw [hs] at HG HS HLE
      have HP := Lib.hid (push_no HS.out hno)
      clear hf hs hm20 hno HALL
      go_wp2_with fail
      refine HG.out.mono ?_
      rintro e w3 hen
      obtain ⟨P, np, cp, Q, m, d, rfl, hv, hb⟩ := hen.at_
      have HB3 := Lib.hid (HB1.out.trans (hb.mono HB1.out.size))
      have HB4 := Lib.hid (HB3.out.trans ((below_new w3 (.cells #[.slice P np cp, .slice Q m d] 30)).mono HB3.out.size))
      have HV := Lib.hid (hv.keep (below_new w3 (.cells #[.slice P np cp, .slice Q m d] 30)))
      have HU4 := Lib.hid (HU1.out.keep (hb.trans ((below_new w3 (.cells #[.slice P np cp, .slice Q m d] 30)).mono hb.size)))
      clear hen hv hb HG
      go_wp2_with fail
      generalize w3.alloc (.cells #[.slice P np cp, .slice Q m d] 30) = w4 at *
      have HK := Lib.hid (Push_st HV.out HU4.out (by have := HLE.out.1; omega) (by have := HLE.out.2; omega) HM20.out)
      rw [HP.out] at HK
      refine HK.out.mono ?_
      rintro e w5 hen
      obtain ⟨P5, n5, c5, Q5, m5, d5, rfl, hv, hb⟩ := hen.of
      have HB6 := Lib.hid (HB4.out.trans ((hb.trans ((below_new w5 (.cells #[.slice P5 n5 c5, .slice Q5 m5 d5] 30)).mono hb.size)).mono HB4.out.size))
      clear hen hv hb HK
      go_wp2_with fail
      exact bodyPost_ret (v := .bool true) (by simp [results, Try.results5, go_sem]) rfl ⟨rfl, HB6.out⟩
end Go.Proofs.Ytdafldahmojpdaa.Stk
