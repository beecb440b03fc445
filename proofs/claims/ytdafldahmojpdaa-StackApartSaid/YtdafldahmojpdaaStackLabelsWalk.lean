/- StackLabels: as many labels as are open: walked. -/
import Derived.Test.YtdafldahmojpdaaStackGrowsWalk
import Derived.Laws.Bits128
namespace Go.Proofs.Ytdafldahmojpdaa.Stk
open Go.RowKit Row9
set_option maxRecDepth 100000
set_option maxHeartbeats 4000000
set_option linter.unusedVariables false
theorem i64_and5 (n : Int) : bits .and .i64 n 31 = n % 32 := by
  have h : (BitVec.ofInt 64 31).toNat = 2 ^ 5 - 1 := by decide
  have key : (BitVec.ofInt 64 n &&& BitVec.ofInt 64 31).toNat = (n % ((2 ^ 64 : Nat) : Int)).toNat % 2 ^ 5 := by
    rw [BitVec.toNat_and, BitVec.toNat_ofInt, h, Nat.and_two_pow_sub_one_eq_mod]
  show IntKind.i64.wrap ((BitVec.ofInt 64 n &&& BitVec.ofInt 64 31).toNat : Nat) = n % 32
  rw [key, IntKind.wrap_i64]
  omega
theorem Label_st {v : Value} {s : Stk} {n : Int} {w : World} (h : StIs elP w v s) (hn : w64 n) (h2 : s.cs.length ≤ 400000) (hs : sane s = true) : Calls Try.prog 26 #[v, .int .i64 n] w (LabTold (labelS s n) w) := by
  obtain ⟨a, c, l, rfl, ha, hc, hl⟩ := h
  obtain ⟨vals, cs⟩ := s
  subst hl
  exact Label_any ha hc hn (by simpa using h2) (fun p hp => by
    have := mayE_len ((sane_facts hs).1 p.1 (List.mem_map_of_mem hp)).2.2
    omega)
theorem LabTold.of {r : List Int × Int} {w w' : World} {e : Ending} (h : LabTold r w e w') : ∃ P n c, e = .returned (.tuple #[.slice P n c, .int .i64 r.2]) ∧ Row elB w' (.slice P n c) r.1 ∧ r.1.length = n ∧ Below w.heap.size w w' := by
  obtain ⟨⟨v, rfl, hv⟩, hb⟩ := h
  obtain ⟨P, c, rfl, _⟩ := hv.form
  exact ⟨P, _, c, rfl, hv, rfl, hb⟩
theorem labels_any {v : Value} {l : List ActV} {n0 : Int} {w : World} (h : Row elA w v l) (hn0 : w64 n0) : Calls Try.prog 7 #[v, .int .i64 n0] w (Yes w) := by
  have HH := Lib.hid h
  have HA := Lib.hid (awake_any w)
  obtain ⟨A, c, rfl, _⟩ := h.form
  obtain ⟨n, hn⟩ : ∃ n, l.length = n := ⟨_, rfl⟩
  rw [hn] at HH ⊢
  have h31 := i64_and5 n0
  obtain ⟨k, hk⟩ : ∃ k : Nat, (k : Int) = n0 % 32 := ⟨(n0 % 32).toNat, by omega⟩
  rw [← hk] at h31
  have hk32 : k < 32 := by omega
  clear h hn hk hn0
  go_enter Try.func7, Try.ntmps7
  go_wp2_with fail
  refine HA.out.mono ?_
  rintro e w1 ⟨rfl, hb⟩
  have HB1 := Lib.hid hb
  have HH1 := Lib.hid (HH.out.keep hb)
  clear hb HA
  go_wp2_with fail
  refine (few_any HH1.out).mono ?_
  rintro e w2 ⟨rfl, rfl⟩
  cases hf : fewL (l.map (·.1)) with
  | false =>
    go_wp2_with fail
    exact bodyPost_ret (v := .bool true) (by simp [results, Try.results7, go_sem]) rfl ⟨rfl, HB1.out⟩
  | true =>
    have HG := Lib.hid (grown_any HH1.out hf)
    have HS := Lib.hid (grow_sane (l.map (·.1)))
    have HLE := Lib.hid (grow_le hf)
    obtain ⟨s, hs⟩ : ∃ s, grow (l.map (·.1)) = s := ⟨_, rfl⟩
    rw [hs] at HG HS HLE
    clear hf hs
    go_wp2_with fail
    refine HG.out.mono ?_
    rintro e w3 hen
    obtain ⟨P, np, cp, Q, m, d, rfl, hv, hb⟩ := hen.at_
    have HB3 := Lib.hid (HB1.out.trans (hb.mono HB1.out.size))
    have HB4 := Lib.hid (HB3.out.trans ((below_new w3 (.cells #[.slice P np cp, .slice Q m d] 30)).mono HB3.out.size))
    have HV := Lib.hid (hv.keep (below_new w3 (.cells #[.slice P np cp, .slice Q m d] 30)))
    have HX := Lib.hid (heap_new w3 (.cells #[.slice P np cp, .slice Q m d] 30))
    clear hen hv hb
    go_wp2_with fail
    generalize w3.alloc (.cells #[.slice P np cp, .slice Q m d] 30) = w4 at *
    obtain ⟨x, hx⟩ : ∃ x, w3.heap.size = x := ⟨_, rfl⟩
    rw [hx] at HX
    simp only [hx]
    clear hx
    obtain ⟨lc, hrb, hrc, hml, hnv, hnl, hnc⟩ := HV.out.rows
    have HRC := Lib.hid hrc
    have HML := Lib.hid hml
    have HNL := Lib.hid hnl
    have HNC := Lib.hid hnc
    have hm100 : m ≤ 100 := by have := HLE.out.2; omega
    clear hrb hrc hml hnv hnl hnc
    have HLa := Lib.hid (Label_st (n := (k : Int)) HV.out (by unfold w64; omega) (by have := HLE.out.2; omega) HS.out)
    by_cases hlt : m ≤ k
    · have HQ := Lib.hid (label_out (n := (k : Int)) HS.out (.inr (by rw [HNC.out]; omega)))
      rw [HQ.out] at HLa
      have t1 : decide ((m : Int) ≤ (k : Int)) = true := decide_eq_true (by omega)
      have t1' : decide (m ≤ k) = true := decide_eq_true hlt
      refine HLa.out.mono ?_
      rintro e w5 hen
      obtain ⟨Pl, nl, cl, rfl, hr, hl0, hb⟩ := hen.of
      obtain rfl : nl = 0 := hl0.symm
      have HB5 := Lib.hid (HB4.out.trans (hb.mono HB4.out.size))
      have x0 := (hb.cell (p := ⟨x, 0, none⟩) (lt_of_heap HX.out)).trans (cells_at HX.out 0).1
      have x1 := (hb.cell (p := ⟨x, 1, none⟩) (lt_of_heap HX.out)).trans (cells_at HX.out 1).1
      simp only [List.getElem?_toArray, List.getElem?_cons_zero, List.getElem?_cons_succ] at x0 x1
      clear hen hr hl0 hb HLa hlt
      go_wp2_with fail
      exact bodyPost_ret (v := .bool true) (by simp [results, Try.results7, go_sem]) rfl ⟨rfl, HB5.out⟩
    · have t1 : decide ((m : Int) ≤ (k : Int)) = false := decide_eq_false (by omega)
      have t1' : decide (m ≤ k) = false := decide_eq_false hlt
      obtain ⟨j, hj⟩ : ∃ j, j = m - 1 - k := ⟨_, rfl⟩
      obtain ⟨p, hp⟩ : ∃ p, lc[j]? = some p := ⟨_, List.getElem?_eq_getElem (by rw [HNL.out]; omega)⟩
      have hp' : s.cs[j]? = some p.1 := by rw [← HML.out, List.getElem?_map, hp]; rfl
      have hq := label_at (n := (k : Int)) HS.out (by rw [HNC.out]; omega) (by rw [HNC.out]; omega) hp'
      have HP := Lib.hid hp
      have e1 : IntKind.i64.wrap ((m : Int) - 1) = (m : Int) - 1 := IntWalk.i64_in _ (by omega)
      have e2 : IntKind.i64.wrap ((m : Int) - 1 - (k : Int)) = (j : Int) := by rw [IntWalk.i64_in _ (by omega)]; omega
      have i1 : (0 : Int) ≤ (j : Int) := by omega
      have i2 : (j : Int) < (m : Int) := by omega
      obtain ⟨⟨op, fin, ht, dd⟩, u⟩ := p
      simp only at hq
      cases h3 : (op == 3) with
      | true =>
        rw [if_pos (by simpa using h3)] at hq
        rw [hq] at HLa
        refine HLa.out.mono ?_
        rintro e w5 hen
        obtain ⟨Pl, nl, cl, rfl, hr, hl0, hb⟩ := hen.of
        obtain rfl : nl = 0 := hl0.symm
        have HB5 := Lib.hid (HB4.out.trans (hb.mono HB4.out.size))
        have x0 := (hb.cell (p := ⟨x, 0, none⟩) (lt_of_heap HX.out)).trans (cells_at HX.out 0).1
        have x1 := (hb.cell (p := ⟨x, 1, none⟩) (lt_of_heap HX.out)).trans (cells_at HX.out 1).1
        simp only [List.getElem?_toArray, List.getElem?_cons_zero, List.getElem?_cons_succ] at x0 x1
        obtain ⟨g, off, rfl, hg, k0, k1, k2, k3, hO⟩ := ctl_at (HRC.out.keep hb) HP.out
        obtain ⟨Pe, ce, hpe, _⟩ := hO.1.form
        simp only at k0 k1 k2 k3 hpe
        obtain ⟨ne, hne⟩ : ∃ ne, fin.length = ne := ⟨_, rfl⟩
        rw [hne] at hpe
        subst hpe
        obtain ⟨qq, hqq⟩ : ∃ qq, off + j * 4 = qq := ⟨_, rfl⟩
        rw [hqq] at k0 k1 k2 k3
        clear hen hr hl0 hb HLa hlt hq hp hp' hO hne hj
        go_wp2_with fail
        exact bodyPost_ret (v := .bool true) (by simp [results, Try.results7, go_sem]) rfl ⟨rfl, HB5.out.trans ((below_new w5 _).mono HB5.out.size)⟩
      | false =>
        rw [if_neg (by simpa using h3)] at hq
        rw [hq] at HLa
        have h3' : (op != 3) = true := by simpa using h3
        refine HLa.out.mono ?_
        rintro e w5 hen
        obtain ⟨Pl, nl, cl, rfl, hr, hl0, hb⟩ := hen.of
        have HB5 := Lib.hid (HB4.out.trans (hb.mono HB4.out.size))
        have x0 := (hb.cell (p := ⟨x, 0, none⟩) (lt_of_heap HX.out)).trans (cells_at HX.out 0).1
        have x1 := (hb.cell (p := ⟨x, 1, none⟩) (lt_of_heap HX.out)).trans (cells_at HX.out 1).1
        simp only [List.getElem?_toArray, List.getElem?_cons_zero, List.getElem?_cons_succ] at x0 x1
        obtain ⟨g, off, rfl, hg, k0, k1, k2, k3, hO⟩ := ctl_at (HRC.out.keep hb) HP.out
        obtain ⟨Pe, ce, hpe, _⟩ := hO.1.form
        simp only at k0 k1 k2 k3 hpe hr hl0
        rw [hl0] at hpe
        subst hpe
        obtain ⟨qq, hqq⟩ : ∃ qq, off + j * 4 = qq := ⟨_, rfl⟩
        rw [hqq] at k0 k1 k2 k3
        have g1 := run_txt (hr.keep (below_new w5 (.cells #[.int .i64 op, .slice Pe nl ce, .int .i64 ht, .bool dd] 46)))
        have g2 := run_txt (hO.1.keep (below_new w5 (.cells #[.int .i64 op, .slice Pe nl ce, .int .i64 ht, .bool dd] 46)))
        simp only at g2
        generalize strOfNums fin = S1 at g1 g2
        have t2 : (S1.toList == S1.toList) = true := by simp
        clear hen hr hl0 hb HLa hlt hq hp hp' hO hj
        go_wp2_with fail
        exact bodyPost_ret (v := .bool true) (by simp [results, Try.results7, go_sem]) rfl ⟨rfl, HB5.out.trans ((below_new w5 _).mono HB5.out.size)⟩
end Go.Proofs.Ytdafldahmojpdaa.Stk
