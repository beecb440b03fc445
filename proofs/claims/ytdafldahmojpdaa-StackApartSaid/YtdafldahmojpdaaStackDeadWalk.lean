/- StackDead: what is never come to gives whatever is wanted: walked. -/
import Derived.Test.YtdafldahmojpdaaStackLabelsWalk
namespace Go.Proofs.Ytdafldahmojpdaa.Stk
open Go.RowKit Row9
set_option maxRecDepth 100000
set_option maxHeartbeats 8000000
set_option linter.unusedVariables false
theorem cells2 {w : World} {x : Nat} {a b : Value} {t : TypeId} (h : w.heap[x]? = some (.cells #[a, b] t (0, 0))) : w.cell? ⟨x, 0, none⟩ = some a ∧ w.cell? ⟨x, 1, none⟩ = some b := ⟨(cells_at h 0).1, (cells_at h 1).1⟩
theorem cells4 {w : World} {x : Nat} {a b c d : Value} {t : TypeId} (h : w.heap[x]? = some (.cells #[a, b, c, d] t (0, 0))) : w.cell? ⟨x, 0, none⟩ = some a ∧ w.cell? ⟨x, 1, none⟩ = some b ∧ w.cell? ⟨x, 2, none⟩ = some c ∧ w.cell? ⟨x, 3, none⟩ = some d := ⟨(cells_at h 0).1, (cells_at h 1).1, (cells_at h 2).1, (cells_at h 3).1⟩
theorem undef_ne (b : Bool) : ¬ (some undef = some (Value.bool b)) := by intro h; cases h
theorem last_cases (cs : List Ctl) : cs = [] ∨ ∃ q c, cs = q ++ [c] := by
  cases h : cs.getLast? with
  | none => exact .inl (List.getLast?_eq_none_iff.1 h)
  | some c =>
    obtain ⟨q, hq⟩ : ∃ q, cs = q ++ [c] := List.getLast?_eq_some_iff.1 h
    exact .inr ⟨q, c, hq⟩
theorem dead_any {v u : Value} {l : List ActV} {mm : List Int} {w : World} (h : Row elA w v l) (hu : Row elB w u mm) : Calls Try.prog 6 #[v, u] w (Yes w) := by
  have HH := Lib.hid h
  have HU := Lib.hid hu
  have HA := Lib.hid (awake_any w)
  obtain ⟨A, c, rfl, _⟩ := h.form
  obtain ⟨Pm, cm, rfl, _⟩ := hu.form
  obtain ⟨n, hn⟩ : ∃ n, l.length = n := ⟨_, rfl⟩
  obtain ⟨nm, hnm⟩ : ∃ n, mm.length = n := ⟨_, rfl⟩
  rw [hn] at HH ⊢
  rw [hnm] at HU ⊢
  have HNM := Lib.hid hnm
  clear h hu hn hnm
  go_enter Try.func6, Try.ntmps6
  go_wp2_with fail
  refine HA.out.mono ?_
  rintro e w1 ⟨rfl, hb⟩
  have HB1 := Lib.hid hb
  have HH1 := Lib.hid (HH.out.keep hb)
  have HU1 := Lib.hid (HU.out.keep hb)
  clear hb HA
  go_wp2_with fail
  refine (few_any HH1.out).mono ?_
  rintro e w2 ⟨rfl, rfl⟩
  cases hf : fewL (l.map (·.1)) with
  | false =>
    go_wp2_with fail
    exact bodyPost_ret (v := .bool true) (by simp [results, Try.results6, go_sem]) rfl ⟨rfl, HB1.out⟩
  | true =>
    by_cases hm20 : 20 < nm
    · have t1 : decide ((20 : Int) < (nm : Int)) = true := decide_eq_true (by omega)
      have t1' : decide (20 < nm) = true := decide_eq_true hm20
      go_wp2_with fail
      exact bodyPost_ret (v := .bool true) (by simp [results, Try.results6, go_sem]) rfl ⟨rfl, HB1.out⟩
    · have t1 : decide ((20 : Int) < (nm : Int)) = false := decide_eq_false (by omega)
      have t1' : decide (20 < nm) = false := decide_eq_false hm20
      have HM20 : Hid (mm.length ≤ 400000) := by show _ ≤ _; rw [HNM.out]; omega
      have HG := Lib.hid (grown_any HH1.out hf)
      have HS := Lib.hid (grow_sane (l.map (·.1)))
      have HLE := Lib.hid (grow_le hf)
      obtain ⟨s, hs⟩ : ∃ s, grow (l.map (·.1)) = s := ⟨_, rfl⟩
      rw [hs] at HG HS HLE
      clear hf hs hm20
      go_wp2_with fail
      refine HG.out.mono ?_
      rintro e w3 hen
      obtain ⟨P, np, cp, Q, m, d, rfl, hv, hb⟩ := hen.at_
      have HB3 := Lib.hid (HB1.out.trans (hb.mono HB1.out.size))
      have HB4 := Lib.hid (HB3.out.trans ((below_new w3 (.cells #[.slice P np cp, .slice Q m d] 30)).mono HB3.out.size))
      have HV := Lib.hid (hv.keep (below_new w3 (.cells #[.slice P np cp, .slice Q m d] 30)))
      have HU4 := Lib.hid (HU1.out.keep (hb.trans ((below_new w3 (.cells #[.slice P np cp, .slice Q m d] 30)).mono hb.size)))
      have HX := Lib.hid (heap_new w3 (.cells #[.slice P np cp, .slice Q m d] 30))
      clear hen hv hb
      go_wp2_with fail
      generalize w3.alloc (.cells #[.slice P np cp, .slice Q m d] 30) = w4 at *
      obtain ⟨x, hx⟩ : ∃ x, w3.heap.size = x := ⟨_, rfl⟩
      rw [hx] at HX
      simp only [hx]
      clear hx
      obtain ⟨lc, hrb, hrc, hml, hnv, hnl, hnc⟩ := HV.out.rows
      have HNC := Lib.hid hnc
      clear hrb hrc hml hnv hnl hnc
      have HK := Lib.hid (Kill_st HV.out (by have := HLE.out.1; omega) (by have := HLE.out.2; omega))
      rcases last_cases s.cs with hcs | ⟨q, ctl, hcs⟩
      · rw [killS_none HS.out hcs] at HK
        have hm0 : m = 0 := by
          have := HNC.out
          rw [hcs] at this
          simpa using this.symm
        subst hm0
        refine HK.out.mono ?_
        rintro e w5 hen
        obtain ⟨P5, n5, c5, Q5, m5, d5, rfl, hv, hb⟩ := hen.of
        have HB5 := Lib.hid (HB4.out.trans (hb.mono HB4.out.size))
        obtain ⟨x0, x1⟩ := cells2 ((hb.block x (lt_of_heap HX.out)).trans HX.out)
        have hxl : x < w5.heap.size := Nat.lt_of_lt_of_le (lt_of_heap HX.out) hb.size
        clear hen hv hb HK hcs
        go_wp2_with fail
        exact bodyPost_ret (v := .bool true) (by simp [results, Try.results6, go_sem]) rfl ⟨rfl, HB5.out.trans ((below_new w5 _).mono HB5.out.size)⟩
      · rw [killS_last HS.out hcs] at HK
        have HCS := Lib.hid hcs
        have hm1 : m = q.length + 1 := by rw [← HNC.out, hcs]; simp
        have hht := dead_len HS.out hcs
        obtain ⟨tk, htk⟩ : ∃ tk, s.vals.take ctl.ht.toNat = tk := ⟨_, rfl⟩
        have hw := dead_want HS.out hcs mm
        have hc := dead_close HS.out hcs
        have hl := label_last HS.out hcs
        rw [htk] at HK hht hw hc
        have hts : tk.length ≤ 2000 := by rw [← htk, List.length_take]; have := HLE.out.1; omega
        have hqs : q.length ≤ 99 := by have := HLE.out.2; have := HNC.out; omega
        have HW := Lib.hid hw
        have HCl := Lib.hid hc
        have HLb := Lib.hid hl
        have HHT := Lib.hid hht
        have HTS := Lib.hid hts
        have HQS := Lib.hid hqs
        obtain ⟨mb, hmb⟩ : ∃ mb, q.length = mb := ⟨_, rfl⟩
        have HMB := Lib.hid hmb
        obtain ⟨na, hna⟩ : ∃ na, tk.length = na := ⟨_, rfl⟩
        have HNA := Lib.hid hna
        have e1 : IntKind.i64.wrap ((m : Int) - 1) = (mb : Int) := by rw [IntWalk.i64_in _ (by omega)]; omega
        have t3 : ((m : Int) == 0) = false := by simpa using (show (m : Int) ≠ 0 by omega)
        have t3' : (m == 0) = false := by simpa using (show m ≠ 0 by omega)
        clear hcs hm1 hht htk hw hc hl hts hqs hmb hna
        refine HK.out.mono ?_
        rintro e w5 hen
        obtain ⟨P5, n5, c5, Q5, m5, d5, rfl, hv, hb⟩ := hen.of
        have HK5 := Lib.hid (hb.trans ((below_new w5 (.cells #[.slice P5 n5 c5, .slice Q5 m5 d5] 30)).mono hb.size))
        have HB6 := Lib.hid (HB4.out.trans (HK5.out.mono HB4.out.size))
        have HV5 := Lib.hid (hv.keep (below_new w5 (.cells #[.slice P5 n5 c5, .slice Q5 m5 d5] 30)))
        have HVs := Lib.hid (HV.out.keep HK5.out)
        have HU6 := Lib.hid (HU4.out.keep HK5.out)
        have HX6 := Lib.hid ((HK5.out.block x (lt_of_heap HX.out)).trans HX.out)
        have HY6 := Lib.hid (heap_new w5 (.cells #[.slice P5 n5 c5, .slice Q5 m5 d5] 30))
        obtain ⟨x0, x1⟩ := cells2 ((hb.block x (lt_of_heap HX.out)).trans HX.out)
        have hxl : x < w5.heap.size := Nat.lt_of_lt_of_le (lt_of_heap HX.out) hb.size
        clear hen hv hb HK
        go_wp2_with fail
        clear x0 x1 hxl
        generalize w5.alloc (.cells #[.slice P5 n5 c5, .slice Q5 m5 d5] 30) = w6 at *
        obtain ⟨y, hy⟩ : ∃ y, w5.heap.size = y := ⟨_, rfl⟩
        rw [hy] at HY6
        simp only [hy]
        clear hy
        have HWa := Lib.hid (Want_st HV5.out HU6.out (by show tk.length ≤ _; have := HTS.out; omega) (by show (q ++ [_]).length ≤ _; rw [List.length_append, List.length_singleton]; have := HQS.out; omega) HM20.out)
        rw [HW.out] at HWa
        refine HWa.out.mono ?_
        rintro e w7 hen
        obtain ⟨P7, n7, c7, Q7, m7, d7, rfl, hv, hb⟩ := hen.of
        have HK7 := Lib.hid (hb.trans ((below_new w7 (.cells #[.slice P7 n7 c7, .slice Q7 m7 d7] 30)).mono hb.size))
        have HB8 := Lib.hid (HB6.out.trans (HK7.out.mono HB6.out.size))
        have HV8 := Lib.hid (HV5.out.keep HK7.out)
        have HVs8 := Lib.hid (HVs.out.keep HK7.out)
        obtain ⟨_, _, _, _, hn7, _, _⟩ := hv.rows
        obtain rfl : na = n7 := HNA.out.symm.trans hn7
        have HX8 := Lib.hid ((HK7.out.block x (lt_of_heap HX6.out)).trans HX6.out)
        have HY8 := Lib.hid ((HK7.out.block y (lt_of_heap HY6.out)).trans HY6.out)
        have HZ8 := Lib.hid (heap_new w7 (.cells #[.slice P7 na c7, .slice Q7 m7 d7] 30))
        obtain ⟨y0, y1⟩ := cells2 ((hb.block y (lt_of_heap HY6.out)).trans HY6.out)
        have hyl : y < w7.heap.size := Nat.lt_of_lt_of_le (lt_of_heap HY6.out) hb.size
        clear hen hv hb HWa
        go_wp2_with fail
        clear y0 y1 hyl
        generalize w7.alloc (.cells #[.slice P7 na c7, .slice Q7 m7 d7] 30) = w8 at *
        obtain ⟨z, hz⟩ : ∃ z, w7.heap.size = z := ⟨_, rfl⟩
        rw [hz] at HZ8
        simp only [hz]
        clear hz
        have HCa := Lib.hid (Close_st HV8.out (by show tk.length ≤ _; have := HTS.out; omega) (by show (q ++ [_]).length ≤ _; rw [List.length_append, List.length_singleton]; have := HQS.out; omega))
        rw [HCl.out] at HCa
        refine HCa.out.mono ?_
        rintro e w9 hen
        obtain ⟨P9, n9, c9, Q9, m9, d9, Pe, ne, ce, rfl, hv, hre, hb⟩ := hen.of
        simp only at hre
        have HKb := Lib.hid (below2 w9 (.cells #[.slice P9 n9 c9, .slice Q9 m9 d9] 30) (.cells #[.int .i64 ctl.op, .slice Pe ne ce, .int .i64 ctl.ht, .bool true] 46))
        have HK9 := Lib.hid (hb.trans (HKb.out.mono hb.size))
        have HB10 := Lib.hid (HB8.out.trans (HK9.out.mono HB8.out.size))
        have HVs10 := Lib.hid (HVs8.out.keep HK9.out)
        have HRE := Lib.hid (hre.keep HKb.out)
        obtain ⟨_, _, _, _, hn9, _, hc9⟩ := hv.rows
        obtain rfl : na = n9 := HNA.out.symm.trans hn9
        obtain rfl : mb = m9 := HMB.out.symm.trans hc9
        have HX10 := Lib.hid ((HK9.out.block x (lt_of_heap HX8.out)).trans HX8.out)
        have HZ10 := Lib.hid ((HK9.out.block z (lt_of_heap HZ8.out)).trans HZ8.out)
        have HP10 := Lib.hid (heap_new w9 (.cells #[.slice P9 na c9, .slice Q9 mb d9] 30))
        have HP10' := Lib.hid ((below_new (w9.alloc (.cells #[.slice P9 na c9, .slice Q9 mb d9] 30)) (.cells #[.int .i64 ctl.op, .slice Pe ne ce, .int .i64 ctl.ht, .bool true] 46)).block w9.heap.size (by rw [size_new]; omega) |>.trans HP10.out)
        have HR10 := Lib.hid (heap_new (w9.alloc (.cells #[.slice P9 na c9, .slice Q9 mb d9] 30)) (.cells #[.int .i64 ctl.op, .slice Pe ne ce, .int .i64 ctl.ht, .bool true] 46))
        simp only [size_new] at HR10
        obtain ⟨x0, x1⟩ := cells2 ((hb.block x (lt_of_heap HX8.out)).trans HX8.out)
        have hxl : x < w9.heap.size := Nat.lt_of_lt_of_le (lt_of_heap HX8.out) hb.size
        clear hen hv hb hre HCa HP10
        go_wp2_with fail
        clear x0 x1 hxl
        generalize (w9.alloc (.cells #[.slice P9 na c9, .slice Q9 mb d9] 30)).alloc (.cells #[.int .i64 ctl.op, .slice Pe ne ce, .int .i64 ctl.ht, .bool true] 46) = w10 at *
        obtain ⟨o1, ho1⟩ : ∃ o, w9.heap.size = o := ⟨_, rfl⟩
        obtain ⟨o2, ho2⟩ : ∃ o, o1 + 1 = o := ⟨_, rfl⟩
        rw [ho1] at HP10' HR10
        rw [ho2] at HR10
        simp only [ho1, ho2]
        clear ho1 ho2
        have HLa := Lib.hid (Label_st (n := 0) HVs10.out (by unfold w64; omega) (by have := HLE.out.2; omega) HS.out)
        rw [HLb.out] at HLa
        have t6 : ((na : Int) == ctl.ht) = true := by rw [← HHT.out, HNA.out]; simp
        obtain ⟨op, fin, ht, dd⟩ := ctl
        simp only at HLa HRE t6 HR10
        cases h3 : (op == 3) with
        | true =>
          rw [if_pos (by simpa using h3)] at HLa
          refine HLa.out.mono ?_
          rintro e w11 hen
          obtain ⟨Pl, nl, cl, rfl, hr, hl0, hb⟩ := hen.of
          obtain rfl : nl = 0 := hl0.symm
          have HB11 := Lib.hid (HB10.out.trans (hb.mono HB10.out.size))
          obtain ⟨x0, x1⟩ := cells2 ((hb.block x (lt_of_heap HX10.out)).trans HX10.out)
          obtain ⟨z0, z1⟩ := cells2 ((hb.block z (lt_of_heap HZ10.out)).trans HZ10.out)
          obtain ⟨u0, u1⟩ := cells2 ((hb.block o1 (lt_of_heap HP10'.out)).trans HP10'.out)
          obtain ⟨v0, v1, v2, v3⟩ := cells4 ((hb.block o2 (lt_of_heap HR10.out)).trans HR10.out)
          clear hen hr hl0 hb HLa
          go_wp2_with fail
          all_goals (first
            | exact absurd (by assumption) (undef_ne _)
            | exact bodyPost_ret (v := .bool true) (by simp [results, Try.results6, go_sem]) rfl ⟨rfl, HB11.out⟩)
        | false =>
          rw [if_neg (by simpa using h3)] at HLa
          have h3' : (op != 3) = true := by simpa using h3
          refine HLa.out.mono ?_
          rintro e w11 hen
          obtain ⟨Pl, nl, cl, rfl, hr, hl0, hb⟩ := hen.of
          simp only at hr hl0
          have HB11 := Lib.hid (HB10.out.trans (hb.mono HB10.out.size))
          obtain ⟨x0, x1⟩ := cells2 ((hb.block x (lt_of_heap HX10.out)).trans HX10.out)
          obtain ⟨z0, z1⟩ := cells2 ((hb.block z (lt_of_heap HZ10.out)).trans HZ10.out)
          obtain ⟨u0, u1⟩ := cells2 ((hb.block o1 (lt_of_heap HP10'.out)).trans HP10'.out)
          obtain ⟨v0, v1, v2, v3⟩ := cells4 ((hb.block o2 (lt_of_heap HR10.out)).trans HR10.out)
          have g1' := run_txt hr
          have g2' := run_txt (HRE.out.keep hb)
          generalize strOfNums fin = S1 at g1' g2'
          have t2 : (S1.toList == S1.toList) = true := by simp
          clear hen hr hl0 hb HLa
          go_wp2_with fail
          all_goals (first
            | exact absurd (by assumption) (undef_ne _)
            | exact bodyPost_ret (v := .bool true) (by simp [results, Try.results6, go_sem]) rfl ⟨rfl, HB11.out⟩)
end Go.Proofs.Ytdafldahmojpdaa.Stk
