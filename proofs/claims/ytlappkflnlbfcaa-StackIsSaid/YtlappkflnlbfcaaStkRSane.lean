/- The document's end and Sane, walked. -/
import Derived.Test.YtlappkflnlbfcaaStkCopied
namespace Go.Proofs.Ytlappkflnlbfcaa.Stk
open Go.RowKit Row9
set_option maxRecDepth 100000
set_option maxHeartbeats 4000000
set_option linter.unusedVariables false
theorem rend_any {v : Value} {l : List Int} {w : World} (h : Row elB w v l) : Calls Try.prog 37 #[v] w fun e w' => e = .returned (.bool (mayE l)) ∧ w' = w := by
  obtain ⟨A, c, rfl, hc, hm⟩ := h.form
  match l, h with
  | [], h =>
    clear h
    go_enter Try.func37, Try.ntmps37
    go_wp2_with fail
    all_goals first
      | exact absurd (by assumption) (undef_ne _)
      | exact bodyPost_ret (v := .bool true) (by simp [results, Try.results37, go_sem]) rfl ⟨rfl, rfl⟩
  | [x], h =>
    obtain ⟨g, off, rfl, hg, h0, _⟩ := byte_at h (j := 0) (by simp)
    have h0 : w.cell? ⟨g, off, none⟩ = some (.int .u8 x) := h0
    show Calls _ _ _ _ fun e w' => e = .returned (.bool ((x == 127) || (x == 126))) ∧ w' = w
    clear h
    simp only [List.length_cons, List.length_nil] at hc ⊢
    cases t1 : (x == 126) with
    | true =>
      rw [Bool.or_true]
      go_enter Try.func37, Try.ntmps37
      go_wp2_with fail
      all_goals first
        | exact absurd (by assumption) (undef_ne _)
        | exact bodyPost_ret (v := .bool true) (by simp [results, Try.results37, go_sem]) rfl ⟨rfl, rfl⟩
    | false =>
      rw [Bool.or_false]
      generalize t2 : (x == 127) = q
      go_enter Try.func37, Try.ntmps37
      go_wp2_with fail
      all_goals first
        | exact absurd (by assumption) (undef_ne _)
        | exact bodyPost_ret (v := .bool q) (by simp [results, Try.results37, go_sem]) rfl ⟨rfl, rfl⟩
  | x :: y :: r, h =>
    show Calls _ _ _ _ fun e w' => e = .returned (.bool false) ∧ w' = w
    obtain ⟨n, hn⟩ : ∃ n, (x :: y :: r).length = n := ⟨_, rfl⟩
    have hn2 : 2 ≤ n := by rw [← hn]; simp
    rw [hn]
    have t0 : ((n : Int) == 0) = false := by simpa using (show (n : Int) ≠ 0 by omega)
    have t1 : ((n : Int) == 1) = false := by simpa using (show (n : Int) ≠ 1 by omega)
    have t0' : (n == 0) = false := by simpa using (show n ≠ 0 by omega)
    have t1' : (n == 1) = false := by simpa using (show n ≠ 1 by omega)
    clear h hc hn hn2
    go_enter Try.func37, Try.ntmps37
    go_wp2_with fail
    all_goals first
      | exact absurd (by assumption) (undef_ne _)
      | exact bodyPost_ret (v := .bool false) (by simp [results, Try.results37, go_sem]) rfl ⟨rfl, rfl⟩
theorem sane_noT {s : Stk} (h : s.vals.any noT = true) : sane s = false := by
  unfold sane
  split
  · rfl
  · rw [h]; simp
theorem rsane_any {v : Value} {s : Stk} {w : World} (h : StIs elD w v s) :
    Calls Try.prog 26 #[v] w fun e w' => e = .returned (.bool (sane s)) ∧ Below w.heap.size w w' := by
  obtain ⟨a, c, l, rfl, ha, hc, hl⟩ := h
  obtain ⟨vals, cs⟩ := s
  simp only at ha hl
  subst hl
  have HA := Lib.hid ha
  have HC := Lib.hid hc
  have HW := Lib.hid (below_new w (.cells #[a, c] 25))
  have HX := Lib.hid (heap_new w (.cells #[a, c] 25))
  obtain ⟨Pa, ca, rfl, ha2, ha3⟩ := ha.form
  obtain ⟨Pc, cc_, rfl, hc2, hc3⟩ := hc.form
  obtain ⟨nv, hnv⟩ : ∃ n, vals.length = n := ⟨_, rfl⟩
  obtain ⟨n, hn⟩ : ∃ n, l.length = n := ⟨_, rfl⟩
  have hbig : n ≤ 9223372036854775807 := by omega
  have hbig' : nv ≤ 9223372036854775807 := by omega
  rw [hnv] at HA HW HX ⊢
  rw [hn] at HC HW HX ⊢
  have HNV := Lib.hid hnv
  have HN := Lib.hid hn
  obtain ⟨R, hR⟩ : ∃ R, sane ⟨vals, l.map (·.1)⟩ = R := ⟨_, rfl⟩
  rw [hR]
  have HR := Lib.hid hR
  clear ha hc ha2 ha3 hc2 hc3 hnv hn hR
  go_enter Try.func26, Try.ntmps26
  go_wp2_with fail
  generalize w.alloc (.cells #[.slice Pa nv ca, .slice Pc n cc_] 25) = w1 at *
  obtain ⟨x, hx⟩ : ∃ x, w.heap.size = x := ⟨_, rfl⟩
  have HXS : Hid (w.heap.size = x) := hx
  rw [hx] at HX
  simp only [hx]
  clear hx
  have HAW := Lib.hid (HA.out.keep HW.out)
  have HCW := Lib.hid (HC.out.keep HW.out)
  obtain ⟨x0, x1⟩ := cells2 HX.out
  have hxl : x < w1.heap.size := lt_of_heap HX.out
  go_loopw [3] (fun i' wr => ∃ i : Nat, i' = .int .i64 (i : Int) ∧ i ≤ nv ∧ wr = w1 ∧ (vals.take i).any noT = false) (fun i' _ => nv - (intOf i').toNat)
  case atStart => exact ⟨0, by go_num, Nat.zero_le _, rfl, rfl⟩
  case round =>
    obtain ⟨i, rfl, hi, hwr, hs⟩ := hrel
    obtain rfl : w1 = wr := hwr.symm
    have HSi := Lib.hid hs
    clear hs
    by_cases hlt : i < nv
    · obtain ⟨g, off, rfl, hg, hcell, hv0, hv1⟩ := byte_at HAW.out (j := i) (by rw [HNV.out]; exact hlt)
      obtain ⟨u, hu⟩ : ∃ u, vals.getD i 0 = u := ⟨_, rfl⟩
      rw [hu] at hcell
      have htk : vals.take (i + 1) = vals.take i ++ [u] := by
        have h1 : i < vals.length := by rw [HNV.out]; exact hlt
        rw [List.take_succ_eq_append_getElem h1, ← hu, List.getD_eq_getElem?_getD, List.getElem?_eq_getElem h1]
        rfl
      have HAN : Hid ((vals.take (i + 1)).any noT = noT u) := by
        show _ = _
        rw [htk, List.any_append, HSi.out]
        simp
      have HUM : Hid (u ∈ vals) := by
        have h1 : i < vals.length := by rw [HNV.out]; exact hlt
        rw [← hu, List.getD_eq_getElem?_getD, List.getElem?_eq_getElem h1]
        exact List.getElem_mem h1
      have i1 : (0 : Int) ≤ (i : Int) := by omega
      have i2 : (i : Int) < (nv : Int) := by omega
      have hw1 : IntKind.i64.wrap ((i : Int) + 1) = (i : Int) + 1 := IntWalk.i64_in _ (by omega)
      clear hu htk hv0 hv1 hg
      by_cases hno : noT u = true
      · have HQ : Hid (R = false) := HR.out.symm.trans (sane_noT (List.any_eq_true.2 ⟨u, HUM.out, hno⟩))
        unfold noT isV at hno
        simp only [Bool.and_eq_true, Bool.not_eq_true', Bool.or_eq_false_iff] at hno
        obtain ⟨t1, t2, t3⟩ := hno
        have t2' : (u != 127) = true := by simpa using t2
        have t3' : (u != 126) = true := by simpa using t3
        go_wp2_with fail
        exact bodyPost_ret (v := .bool false) (by simp [results, Try.results26, go_sem]) rfl ⟨by rw [HQ.out], HW.out⟩
      · have HN1 : Hid ((vals.take (i + 1)).any noT = false) := by
          show _ = _
          rw [HAN.out]
          simpa using hno
        have hno : noT u = false := by simpa using hno
        unfold noT isV at hno
        have hcase : u = 0 ∨ u = 126 ∨ u = 127 := by
          by_cases h1 : u = 0
          · exact .inl h1
          · by_cases h2 : u = 126
            · exact .inr (.inl h2)
            · by_cases h3 : u = 127
              · exact .inr (.inr h3)
              · simp [h1, h2, h3] at hno
        rcases hcase with rfl | rfl | rfl
        all_goals (
          go_wp2_with fail
          go_roundw
          case rel => exact ⟨i + 1, by go_num, hlt, trivial, HN1.out⟩
          case measure => simp [intOf]; omega)
    · obtain rfl : i = nv := by omega
      have HNO : Hid (vals.any noT = false) := by
        have := HSi.out
        rw [List.take_of_length_le (by rw [HNV.out]; exact Nat.le_refl _)] at this
        exact this
      go_wp2_with fail
      go_loopw [4, 5] (fun h' k' wr => ∃ (k : Nat) (h : Int), h' = .int .i64 h ∧ k' = .int .i64 (k : Int) ∧ k ≤ n ∧ wr = w1 ∧ sgo 0 (l.map (·.1)) = sgo h ((l.map (·.1)).drop k)) (fun _ k' _ => n - (intOf k').toNat)
      case atStart => exact ⟨0, 0, rfl, by go_num, Nat.zero_le _, rfl, rfl⟩
      case round =>
        obtain ⟨k, h, rfl, rfl, hk, hwr, hs⟩ := hrel
        obtain rfl : w1 = wr := hwr.symm
        have HSG := Lib.hid hs
        clear hs
        by_cases hlt : k < n
        · obtain ⟨p, hp⟩ : ∃ p, l[k]? = some p := ⟨_, List.getElem?_eq_getElem (by rw [HN.out]; exact hlt)⟩
          obtain ⟨g, off, rfl, hg, k0, k1, k2, k3, hO⟩ := ctl_at HCW.out hp
          have hD := drop_cons hp
          rw [hD] at HSG
          obtain ⟨Pe, ce, hpe, _⟩ := hO.1.form
          obtain ⟨ne, hne⟩ : ∃ ne, p.1.fin.length = ne := ⟨_, rfl⟩
          have HM := Lib.hid (rend_any hO.1)
          rw [hne] at hpe
          rw [hpe] at k1 HM
          have i1 : (0 : Int) ≤ (k : Int) := by omega
          have i2 : (k : Int) < (n : Int) := by omega
          have hw1 : IntKind.i64.wrap ((k : Int) + 1) = (k : Int) + 1 := IntWalk.i64_in _ (by omega)
          obtain ⟨ht, hht⟩ : ∃ ht, p.1.ht = ht := ⟨_, rfl⟩
          rw [hht] at k2
          obtain ⟨qq, hqq⟩ : ∃ qq, off + k * 4 = qq := ⟨_, rfl⟩
          rw [hqq] at k0 k1 k2 k3
          have HHT := Lib.hid hht
          clear hp hD hO hpe hne hht hg
          cases hm : mayE p.1.fin with
          | false =>
            have HQ : Hid (R = false) := HR.out.symm.trans (sane_none (HSG.out.trans (sgo_cons_no hm)))
            rw [hm] at HM
            clear hm
            go_wp2_with fail
            refine HM.out.mono ?_
            rintro e w2 ⟨rfl, rfl⟩
            go_wp2_with fail
            exact bodyPost_ret (v := .bool false) (by simp [results, Try.results26, go_sem]) rfl ⟨by rw [HQ.out], HW.out⟩
          | true =>
            rw [hm] at HM
            by_cases hlo : ht < h
            · have HQ : Hid (R = false) := HR.out.symm.trans (sane_none (HSG.out.trans (sgo_cons_low (by rw [HHT.out]; exact hlo))))
              have t5 : decide (ht < h) = true := decide_eq_true hlo
              clear hm hlo
              go_wp2_with fail
              refine HM.out.mono ?_
              rintro e w2 ⟨rfl, rfl⟩
              go_wp2_with fail
              exact bodyPost_ret (v := .bool false) (by simp [results, Try.results26, go_sem]) rfl ⟨by rw [HQ.out], HW.out⟩
            · have HQ : Hid (sgo 0 (l.map (·.1)) = sgo ht ((l.map (·.1)).drop (k + 1))) := by show _ = _; rw [HSG.out, sgo_cons_yes hm (by rw [HHT.out]; exact hlo), HHT.out]
              have t5 : decide (ht < h) = false := decide_eq_false hlo
              clear hm hlo
              go_wp2_with fail
              refine HM.out.mono ?_
              rintro e w2 ⟨rfl, rfl⟩
              go_wp2_with fail
              go_roundw
              case rel => exact ⟨k + 1, ht, rfl, by go_num, hlt, trivial, HQ.out⟩
              case measure => simp [intOf]; omega
        · obtain rfl : k = n := by omega
          have hse : sgo 0 (l.map (·.1)) = some h := by
            rw [HSG.out, List.drop_of_length_le (by rw [List.length_map, HN.out]; exact Nat.le_refl _)]
            rfl
          have hsx : sane ⟨vals, l.map (·.1)⟩ = (decide (h ≤ (vals.length : Int)) && !(vals.any noT)) := sane_some hse
          rw [HR.out, HNV.out, HNO.out, Bool.not_false, Bool.and_true] at hsx
          have HQ := Lib.hid hsx
          clear hse hsx
          generalize t5 : decide (h ≤ (i : Int)) = q at HQ
          go_wp2_with fail
          exact bodyPost_ret (v := .bool q) (by simp [results, Try.results26, go_sem]) rfl ⟨by rw [HQ.out], HW.out⟩
end Go.Proofs.Ytlappkflnlbfcaa.Stk
