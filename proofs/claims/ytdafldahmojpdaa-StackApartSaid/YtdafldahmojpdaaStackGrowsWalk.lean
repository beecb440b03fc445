/- StackGrows: what is sane stays so: walked. -/
import Derived.Test.YtdafldahmojpdaaStkPlain
namespace Go.Proofs.Ytdafldahmojpdaa.Stk
open Go.RowKit Row9
set_option maxRecDepth 100000
set_option maxHeartbeats 4000000
set_option linter.unusedVariables false
def Yes (w : World) (e : Ending) (w' : World) : Prop := e = .returned (.bool true) ∧ Below w.heap.size w w'
theorem GrEnds.at_ {s : Stk} {w w' : World} {e : Ending} (h : GrEnds s w e w') : ∃ P n c Q m d, e = .returned (.agg #[.slice P n c, .slice Q m d]) ∧ StIs elP w' (.agg #[.slice P n c, .slice Q m d]) s ∧ Below w.heap.size w w' := by
  obtain ⟨⟨P, n, c, Q, m, d, h1, h2⟩, h3⟩ := h
  exact ⟨P, n, c, Q, m, d, h1, h2, h3⟩
/-- A stack as a value, its rows. -/
theorem StIs.rows {T : El CtV} {w : World} {P Q : Option Addr} {n c m d : Nat} {s : Stk} (h : StIs T w (.agg #[.slice P n c, .slice Q m d]) s) : ∃ l, Row elB w (.slice P n c) s.vals ∧ Row T w (.slice Q m d) l ∧ l.map (·.1) = s.cs ∧ s.vals.length = n ∧ l.length = m ∧ s.cs.length = m := by
  obtain ⟨a, c', l, e, h2, h3, h4⟩ := h
  simp only [Value.agg.injEq, Array.mk.injEq, List.cons.injEq, and_true] at e
  obtain ⟨rfl, rfl⟩ := e
  have e1 : s.vals.length = n := by
    obtain ⟨A, k, e, _⟩ := h2.form
    injection e with _ e
    exact e.symm
  have e2 : l.length = m := by
    obtain ⟨A, k, e, _⟩ := h3.form
    injection e with _ e
    exact e.symm
  exact ⟨l, h2, h3, h4, e1, e2, by rw [← h4, List.length_map, e2]⟩
theorem grows_any {v : Value} {l : List ActV} {w : World} (h : Row elA w v l) : Calls Try.prog 4 #[v] w (Yes w) := by
  have HH := Lib.hid h
  have HA := Lib.hid (awake_any w)
  obtain ⟨A, c, rfl, _⟩ := h.form
  obtain ⟨n, hn⟩ : ∃ n, l.length = n := ⟨_, rfl⟩
  rw [hn] at HH ⊢
  clear h hn
  go_enter Try.func4, Try.ntmps4
  go_wp2_with fail
  refine HA.out.mono ?_
  rintro e w1 ⟨rfl, hb⟩
  have HB1 := Lib.hid hb
  have HH1 := Lib.hid (HH.out.keep hb)
  clear hb HA
  go_wp2_with fail
  refine (few_any HH1.out).mono ?_
  rintro e w2 ⟨rfl, rfl⟩
  cases hf : fewL (l.map (·.1)) with
  | false =>
    go_wp2_with fail
    exact bodyPost_ret (v := .bool true) (by simp [results, Try.results4, go_sem]) rfl ⟨rfl, HB1.out⟩
  | true =>
    have HG := Lib.hid (grown_any HH1.out hf)
    have HS := Lib.hid (grow_sane (l.map (·.1)))
    obtain ⟨s, hs⟩ : ∃ s, grow (l.map (·.1)) = s := ⟨_, rfl⟩
    rw [hs] at HG HS
    clear hf hs
    go_wp2_with fail
    refine HG.out.mono ?_
    rintro e w3 hen
    obtain ⟨P, np, cp, Q, m, d, rfl, hv, hb⟩ := hen.at_
    have HB3 := Lib.hid (HB1.out.trans (hb.mono HB1.out.size))
    have HB4 := Lib.hid (HB3.out.trans ((below_new w3 (.cells #[.slice P np cp, .slice Q m d] 30)).mono HB3.out.size))
    have HV := Lib.hid (hv.keep (below_new w3 (.cells #[.slice P np cp, .slice Q m d] 30)))
    have HX := Lib.hid (heap_new w3 (.cells #[.slice P np cp, .slice Q m d] 30))
    clear hen hv hb
    go_wp2_with fail
    generalize w3.alloc (.cells #[.slice P np cp, .slice Q m d] 30) = w4 at *
    obtain ⟨x, hx⟩ : ∃ x, w3.heap.size = x := ⟨_, rfl⟩
    rw [hx] at HX
    simp only [hx]
    clear hx
    obtain ⟨lc, hrb, hrc, hml, hnv, hnl, hnc⟩ := HV.out.rows
    have HRC := Lib.hid hrc
    have HML := Lib.hid hml
    have HNV := Lib.hid hnv
    have HNL := Lib.hid hnl
    have hbig : m ≤ 9223372036854775807 := by
      obtain ⟨A, k, e, h1, h2⟩ := hrc.form
      omega
    clear hrb hrc hml hnv hnl hnc
    go_loopw [5] (fun i' wr => ∃ i : Nat, i' = .int .i64 (i : Int) ∧ i ≤ m ∧ Below w4.heap.size w4 wr) (fun i' _ => m - (intOf i').toNat)
    case atStart => exact ⟨0, by go_num, Nat.zero_le _, Below.refl _ _⟩
    case round =>
      obtain ⟨i, rfl, hi, hbe⟩ := hrel
      have HBe := Lib.hid hbe
      have hxl := lt_of_heap HX.out
      have x0 := (hbe.cell (p := ⟨x, 0, none⟩) hxl).trans (cells_at HX.out 0).1
      have x1 := (hbe.cell (p := ⟨x, 1, none⟩) hxl).trans (cells_at HX.out 1).1
      simp only [List.getElem?_toArray, List.getElem?_cons_zero, List.getElem?_cons_succ] at x0 x1
      clear hbe hxl
      by_cases hlt : i < m
      · obtain ⟨p, hp⟩ : ∃ p, lc[i]? = some p := ⟨_, List.getElem?_eq_getElem (by rw [HNL.out]; exact hlt)⟩
        obtain ⟨g, off, rfl, hg, k0, k1, k2, k3, hO⟩ := ctl_at (HRC.out.keep HBe.out) hp
        have hft := (sane_facts HS.out).1 p.1 (by rw [← HML.out]; exact List.mem_map_of_mem (List.mem_of_getElem? hp))
        rw [HNV.out] at hft
        obtain ⟨ht, hht⟩ : ∃ ht, p.1.ht = ht := ⟨_, rfl⟩
        rw [hht] at hft k2
        obtain ⟨qq, hqq⟩ : ∃ qq, off + i * 4 = qq := ⟨_, rfl⟩
        rw [hqq] at k0 k1 k2 k3
        have t1 : decide ((np : Int) < ht) = false := decide_eq_false (by omega)
        have t2 : decide (ht < 0) = false := decide_eq_false (by omega)
        have i1 : (0 : Int) ≤ (i : Int) := by omega
        have i2 : (i : Int) < (m : Int) := by omega
        have hw1 : IntKind.i64.wrap ((i : Int) + 1) = (i : Int) + 1 := IntWalk.i64_in _ (by omega)
        clear hp hg hft hht hO
        go_wp2_with fail
        go_big_quiet (fail)
        go_wp2_with fail
        go_roundw
        case rel => exact ⟨i + 1, by go_num, hlt, HBe.out.trans (drewB _ _ HBe.out.size)⟩
        case measure => simp [intOf]; omega
      · obtain rfl : i = m := by omega
        have HSa := Lib.hid (Sane_st (HV.out.keep HBe.out))
        rw [HS.out] at HSa
        go_wp2_with fail
        refine HSa.out.mono ?_
        rintro e w6 ⟨rfl, hb⟩
        have HBf := Lib.hid ((HB4.out.trans (HBe.out.mono HB4.out.size)).trans (hb.mono (HB4.out.trans (HBe.out.mono HB4.out.size)).size))
        clear hb
        go_wp2_with fail
        exact bodyPost_ret (v := .bool true) (by simp [results, Try.results4, go_sem]) rfl ⟨rfl, HBf.out⟩
end Go.Proofs.Ytdafldahmojpdaa.Stk
