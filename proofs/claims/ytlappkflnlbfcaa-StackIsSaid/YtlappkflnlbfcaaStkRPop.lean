/- The document's Pop, walked (gen_rdoc.py). -/
import Derived.Test.YtlappkflnlbfcaaStkRKill
namespace Go.Proofs.Ytlappkflnlbfcaa.Stk
open Go.RowKit Row9
set_option maxRecDepth 100000
set_option maxHeartbeats 4000000
set_option linter.unusedVariables false
/-- What the document's Pop ends with. -/
def RPop (r : Stk × Int × Int) (w : World) (e : Ending) (w' : World) : Prop := (∃ P n c Q m d, e = .returned (.tuple #[.agg #[.slice P n c, .slice Q m d], .int .u8 r.2.1, .int .i64 r.2.2]) ∧ StIs elD w' (.agg #[.slice P n c, .slice Q m d]) r.1) ∧ Below w.heap.size w w'
theorem pop_notsane {s : Stk} (h : sane s = false) : popS s = (none_, 0, 1) := by unfold popS; rw [if_pos h]
theorem pop_empty {s : Stk} (h : sane s = true) (hc : s.cs = []) : popS s = (none_, 0, 5) := by
  unfold popS
  rw [if_neg (by rw [h]; decide), hc]
  rfl
theorem pop_last {s : Stk} {q : List Ctl} {c : Ctl} (h : sane s = true) (hc : s.cs = q ++ [c]) : popS s = match popV (some c) s.vals with
  | none => (none_, 0, 5)
  | some (vs, v) => (⟨vs, s.cs⟩, v, 0) := by
  unfold popS
  rw [if_neg (by rw [h]; decide), hc, List.getLast?_concat]
  rfl
theorem pop_taken {s : Stk} {q : List Ctl} {c : Ctl} (h : sane s = true) (hc : s.cs = q ++ [c]) (hl : c.ht < s.vals.length) : popS s = (⟨s.vals.dropLast, s.cs⟩, s.vals.getLastD 0, 0) := by
  rw [pop_last h hc, popV_some hl]
theorem pop_dead {s : Stk} {q : List Ctl} {c : Ctl} (h : sane s = true) (hc : s.cs = q ++ [c]) (hl : ¬ c.ht < s.vals.length) (hd : c.dead = true) : popS s = (s, 0, 0) := by
  rw [pop_last h hc, popV_dead hl hd]
theorem pop_fail {s : Stk} {q : List Ctl} {c : Ctl} (h : sane s = true) (hc : s.cs = q ++ [c]) (hl : ¬ c.ht < s.vals.length) (hd : c.dead = false) : popS s = (none_, 0, 5) := by
  rw [pop_last h hc, popV_no hl hd]
theorem rpop_any {v : Value} {s : Stk} {w : World} (h : StIs elD w v s) (h1 : s.vals.length ≤ 400000) (h2 : s.cs.length ≤ 400000) :
    Calls Try.prog 10 #[v] w (RPop (popS s) w) := by
  obtain ⟨P, np, cp, Q, m, d, rfl⟩ := StIs.form (T := elD) h
  obtain ⟨l0, hrb0, hrc0, hml0, hnv, hnl0, hnc⟩ := h.rows
  have HB2 := Lib.hid (below2 w (.cells #[.slice P np cp, .slice Q m d] 25) (.cells #[.slice none 0 0, .slice none 0 0] 25))
  have HBX := Lib.hid (blk (heap_new w (.cells #[.slice P np cp, .slice Q m d] 25)) (below_new (w.alloc (.cells #[.slice P np cp, .slice Q m d] 25)) (.cells #[.slice none 0 0, .slice none 0 0] 25)))
  have HR := Lib.hid (heap_new (w.alloc (.cells #[.slice P np cp, .slice Q m d] 25)) (.cells #[.slice none 0 0, .slice none 0 0] 25))
  have HV := Lib.hid (h.keep HB2.out)
  simp only [size_new] at HR
  have HL1 := Lib.hid h1
  have HL2 := Lib.hid h2
  have HNC := Lib.hid hnc
  have HNV := Lib.hid hnv
  have HRC0 := Lib.hid (hrc0.keep HB2.out)
  have HRB0 := Lib.hid (hrb0.keep HB2.out)
  have HML0 := Lib.hid hml0
  obtain ⟨R, hR⟩ : ∃ R, popS s = R := ⟨_, rfl⟩
  have HRR := Lib.hid hR
  rw [hR]
  have hbig : m ≤ 400000 := by omega
  have hbigv : np ≤ 400000 := by omega
  clear h h1 h2 hR hrb0 hrc0 hml0 hnv hnl0 hnc
  go_enter Try.func10, Try.ntmps10
  go_wp2_with fail
  generalize ((w.alloc (.cells #[.slice P np cp, .slice Q m d] 25)).alloc (.cells #[.slice none 0 0, .slice none 0 0] 25)) = w2 at *
  obtain ⟨b, hb0⟩ : ∃ b, w.heap.size = b := ⟨_, rfl⟩
  obtain ⟨r, hr0⟩ : ∃ r, b + 1 = r := ⟨_, rfl⟩
  have HBR : Hid (w.heap.size ≤ r) := Lib.hid (by omega)
  have HBN : Hid (b ≠ r) := Lib.hid (by omega)
  have HBB : Hid (w.heap.size ≤ b) := Lib.hid (by omega)
  rw [hb0] at HBX HR
  rw [hr0] at HR
  simp only [hb0]
  simp only [hr0]
  clear hb0 hr0
  refine (rsane_any HV.out).mono ?_
  rintro e w3 ⟨rfl, hb⟩
  have HB3 := Lib.hid (HB2.out.trans (hb.mono HB2.out.size))
  have HV3 := Lib.hid (HV.out.keep hb)
  have HRC3 := Lib.hid (HRC0.out.keep hb)
  have HRB3 := Lib.hid (HRB0.out.keep hb)
  have HBX3 := Lib.hid (blk HBX.out hb)
  have HR3 := Lib.hid (blk HR.out hb)
  clear hb HV HBX HR HB2 HRC0 HRB0
  obtain ⟨q0, q1⟩ := cells2 HR3.out
  have p0 := (cells_at HR3.out 0).2
  have p1 := (cells_at HR3.out 1).2
  have hrl : r < w3.heap.size := lt_of_heap HR3.out
  cases hs : sane s with
  | false =>
    have HQ : Hid (R = (none_, 0, 1)) := HRR.out.symm.trans (pop_notsane hs)
    go_wp2_with fail
    obtain ⟨f0, f1⟩ := cells2 (store2 HR3.out (.slice none 0 0) (.slice none 0 0))
    have HF := Lib.hid ((HB3.out.setCell (p := ⟨r, 0, none⟩) HBR.out (.slice none 0 0)).setCell (p := ⟨r, 1, none⟩) HBR.out (.slice none 0 0))
    generalize (w3.setCell ⟨r, 0, none⟩ (.slice none 0 0)).setCell ⟨r, 1, none⟩ (.slice none 0 0) = wf at *
    clear q0 q1 p0 p1
    rw [HQ.out]
    exact bodyPost_ret (v := .tuple #[.agg #[.slice none 0 0, .slice none 0 0], .int .u8 0, .int .i64 1]) (by simp [results, Try.results10, go_sem, f0, f1]) rfl ⟨⟨_, _, _, _, _, _, rfl, StIs.none_ elD wf⟩, HF.out⟩
  | true =>
    have HS := Lib.hid hs
    clear hs
    obtain ⟨x0, x1⟩ := cells2 HBX3.out
    have hbl : b < w3.heap.size := lt_of_heap HBX3.out
    rcases last_cases s.cs with hcs | ⟨q, ctl, hcs⟩
    · have hm0 : m = 0 := by
        have := HNC.out
        rw [hcs] at this
        simpa using this.symm
      subst hm0
      have t3 : IntKind.i64.wrap (((0 : Nat) : Int) - 1) = -1 := by decide
      have HQ : Hid (R = (none_, 0, 5)) := HRR.out.symm.trans (pop_empty HS.out hcs)
      go_wp2_with fail
      obtain ⟨f0, f1⟩ := cells2 (store2 HR3.out (.slice none 0 0) (.slice none 0 0))
      have HF := Lib.hid ((HB3.out.setCell (p := ⟨r, 0, none⟩) HBR.out (.slice none 0 0)).setCell (p := ⟨r, 1, none⟩) HBR.out (.slice none 0 0))
      generalize (w3.setCell ⟨r, 0, none⟩ (.slice none 0 0)).setCell ⟨r, 1, none⟩ (.slice none 0 0) = wf at *
      clear q0 q1 p0 p1 x0 x1
      rw [HQ.out]
      exact bodyPost_ret (v := .tuple #[.agg #[.slice none 0 0, .slice none 0 0], .int .u8 0, .int .i64 5]) (by simp [results, Try.results10, go_sem, f0, f1]) rfl ⟨⟨_, _, _, _, _, _, rfl, StIs.none_ elD wf⟩, HF.out⟩
    · have hm1 : m = q.length + 1 := by rw [← HNC.out, hcs]; simp
      have HCS := Lib.hid hcs
      obtain ⟨k, hk⟩ : ∃ k, q.length = k := ⟨_, rfl⟩
      have HK := Lib.hid hk
      have hmk : m = k + 1 := by omega
      subst hmk
      have t3 : IntKind.i64.wrap (((k + 1 : Nat) : Int) - 1) = (k : Int) := by rw [IntWalk.i64_in _ (by omega)]; omega
      have t4 : decide ((k : Int) < 0) = false := decide_eq_false (by omega)
      clear hcs hm1 hk q0 q1 p0 p1 hrl
      go_wp2_with fail
      clear x0 x1 hbl
      refine (copied_eo HV3.out HL1.out HL2.out).mono ?_
      rintro e w5 ⟨⟨P5, n5, c5, Q5, m5, d5, l, rfl, he1, he2, hml, hok, hck⟩, hb⟩
      obtain ⟨hcap, hn5⟩ : n5 ≤ c5 ∧ s.vals.length = n5 := by
        obtain ⟨A, c', e, hc', _⟩ := (he1.row (T := elB) hok).form
        injection e with _ e1 e2
        subst e1 e2
        exact ⟨hc', rfl⟩
      obtain rfl : n5 = np := hn5.symm.trans HNV.out
      have HBn := Lib.hid (hb.trans ((below_new w5 (.cells #[.slice P5 n5 c5, .slice Q5 m5 d5] 25)).mono hb.size))
      have HB6 := Lib.hid (HB3.out.trans (HBn.out.mono HB3.out.size))
      have HE1 := Lib.hid (he1.keep (below_new w5 (.cells #[.slice P5 n5 c5, .slice Q5 m5 d5] 25)))
      have HE2 := Lib.hid (he2.keep (below_new w5 (.cells #[.slice P5 n5 c5, .slice Q5 m5 d5] 25)))
      have HO6 := Lib.hid (heap_new w5 (.cells #[.slice P5 n5 c5, .slice Q5 m5 d5] 25))
      have HR6 := Lib.hid (blk HR3.out HBn.out)
      have HBX6 := Lib.hid (blk HBX3.out HBn.out)
      have HRC6 := Lib.hid (HRC3.out.keep HBn.out)
      have HRB6 := Lib.hid (HRB3.out.keep HBn.out)
      have HML := Lib.hid hml
      have HOK := Lib.hid hok
      have HCK := Lib.hid hck
      have HO5 : Hid (w3.heap.size ≤ w5.heap.size) := hb.size
      have HR4l : Hid (r < w3.heap.size) := lt_of_heap HR3.out
      have HBl : Hid (b < w3.heap.size) := lt_of_heap HBX3.out
      obtain ⟨pp, hpp, hpc⟩ : ∃ pp, l0[k]? = some pp ∧ pp.1 = ctl := by
        have e : (l0.map (·.1))[k]? = some ctl := by rw [HML0.out, HCS.out, ← HK.out]; simp
        rw [List.getElem?_map] at e
        cases hq : l0[k]? with
        | none => rw [hq] at e; cases e
        | some pp => rw [hq] at e; exact ⟨pp, rfl, Option.some.inj e⟩
      obtain ⟨g, off, hQe, hg, k0, k1, k2, k3, hO⟩ := ctl_at HRC6.out hpp
      rw [hpc] at k2 k3
      subst hQe
      obtain ⟨ht, hht⟩ : ∃ ht, ctl.ht = ht := ⟨_, rfl⟩
      rw [hht] at k2
      have HHT := Lib.hid hht
      obtain ⟨qq, hqq⟩ : ∃ qq, off + k * 4 = qq := ⟨_, rfl⟩
      rw [hqq] at k0 k1 k2 k3
      have i1 : (0 : Int) ≤ (k : Int) := by omega
      have i2 : (k : Int) < ((k + 1 : Nat) : Int) := by omega
      obtain ⟨x0, x1⟩ := cells2 HBX6.out
      obtain ⟨o0, o1⟩ := cells2 HO6.out
      clear hb he1 he2 hml hok hck hpp hpc hO hn5 hht
      by_cases hlt : ht < (n5 : Int)
      · have hht0 : (0 : Int) ≤ ht := by have := dead_len HS.out HCS.out; rw [← HHT.out]; omega
        obtain ⟨kk, hkk⟩ : ∃ kk, n5 = kk + 1 := ⟨n5 - 1, by omega⟩
        obtain ⟨gb, ofb, hPe, hgb, hb8, _⟩ := byte_at HRB6.out (j := kk) (by rw [HNV.out]; omega)
        subst hPe
        obtain ⟨v, hv⟩ : ∃ v, s.vals.getD kk 0 = v := ⟨_, rfl⟩
        rw [hv] at hb8
        have HQ : Hid (R = (⟨s.vals.take kk, s.cs⟩, v, 0)) := by
          show _ = _
          rw [← HRR.out, pop_taken HS.out HCS.out (by rw [HHT.out, HNV.out]; exact hlt)]
          have e1 : s.vals.getLastD 0 = v := by
            rw [List.getLastD_eq_getLast?, List.getLast?_eq_getElem?, HNV.out, hkk, Nat.add_sub_cancel, ← hv, List.getD_eq_getElem?_getD]
          have e2 : s.vals.dropLast = s.vals.take kk := by rw [List.dropLast_eq_take, HNV.out, hkk, Nat.add_sub_cancel]
          rw [e1, e2]
        have t5 : IntKind.i64.wrap ((n5 : Int) - 1) = (kk : Int) := by rw [IntWalk.i64_in _ (by omega)]; omega
        have t6 : decide (ht < (n5 : Int)) = true := decide_eq_true hlt
        have j1 : (0 : Int) ≤ (kk : Int) := by omega
        have j2 : (kk : Int) < (n5 : Int) := by omega
        have j3 : (kk : Int) ≤ (c5 : Int) := by omega
        have j3' : kk ≤ c5 := by omega
        have HT := Lib.hid (HE1.out.take kk (by omega))
        have HB8 := Lib.hid hb8
        have HGB := Lib.hid hgb
        clear hlt hkk hv hht0 hb8 hgb
        go_wp2_with fail
        go_quiet (fail)
        have HD := Lib.hid (drewB (w5.alloc (.cells #[.slice P5 n5 c5, .slice Q5 m5 d5] 25)) nq (Nat.le_refl (w5.alloc (.cells #[.slice P5 n5 c5, .slice Q5 m5 d5] 25)).heap.size))
        have HO7 := Lib.hid (blk HO6.out HD.out)
        have HR7 := Lib.hid (blk HR6.out HD.out)
        have HBX7 := Lib.hid (blk HBX6.out HD.out)
        have HE27 := Lib.hid (HE2.out.keep HD.out)
        have HC7 : Hid (∀ p ∈ l, CtOk ((w5.alloc (.cells #[.slice P5 n5 c5, .slice Q5 m5 d5] 25)).drewN nq) p) := fun p hp => (HCK.out p hp).keep (HBn.out.trans (HD.out.mono HBn.out.size))
        have HB7 := Lib.hid (HB6.out.trans (HD.out.mono HB6.out.size))
        have b8 := (HD.out.cell (p := ⟨gb, ofb + kk, none⟩) HGB.out).trans HB8.out
        have HT7 := Lib.hid (HT.out.keep HD.out)
        clear x0 x1 o0 o1 k0 k1 k2 k3
        generalize (w5.alloc (.cells #[.slice P5 n5 c5, .slice Q5 m5 d5] 25)).drewN nq = w7 at *
        obtain ⟨o, ho⟩ : ∃ o, w5.heap.size = o := ⟨_, rfl⟩
        rw [ho] at HO7 HO5
        simp only [ho]
        clear ho HO6 HR6 HBX6 HRC6 HRB6 HE1 HE2 HB6 HBn HD
        obtain ⟨o0, o1⟩ := cells2 HO7.out
        have op0 := (cells_at HO7.out 0).2
        have hol : o < w7.heap.size := lt_of_heap HO7.out
        go_wp2_with fail
        have HO8 : Hid ((w7.setCell ⟨o, 0, none⟩ (.slice P5 kk c5)).heap[o]? = some (.cells #[.slice P5 kk c5, .slice Q5 m5 d5] 25 (0, 0))) := by
          show _ = _
          rw [set_heap HO7.out]
          rfl
        have hro : r ≠ o := by have := HR4l.out; have := HO5.out; omega
        have hor : o ≠ r := Ne.symm hro
        have hbo : b ≠ o := by have := HBl.out; have := HO5.out; omega
        have HR8 := Lib.hid (chgT_low (u := .slice P5 kk c5) HR7.out (o := o) (i := 0) hro)
        have HX8 := Lib.hid (chgT_low (u := .slice P5 kk c5) HBX7.out (o := o) (i := 0) hbo)
        have hgo : gb ≠ o := by
          intro e
          subst e
          exact box_int HO7.out _ b8
        have b9 : (w7.setCell ⟨o, 0, none⟩ (.slice P5 kk c5)).cell? ⟨gb, ofb + kk, none⟩ = some (.int .u8 v) := by
          rw [World.cell?_setCell_other _ _ _ _ (by intro e; exact hgo (congrArg Addr.block e).symm)]
          exact b8
        have HE8 := Lib.hid (HT7.out.other (chgT_set (i := 0) (u := .slice P5 kk c5) HO7.out) (by decide))
        have HF8 := Lib.hid (HE27.out.other (chgT_set (i := 0) (u := .slice P5 kk c5) HO7.out) (by decide))
        have HC8 : Hid (∀ p ∈ l, CtOk (w7.setCell ⟨o, 0, none⟩ (.slice P5 kk c5)) p) := fun p hp => ctok_box (HC7.out p hp) HO7.out
        have HB8' := Lib.hid (HB7.out.setCell (p := ⟨o, 0, none⟩) (Nat.le_trans HB3.out.size HO5.out) (.slice P5 kk c5))
        clear o0 o1 op0 hol b8 hgo
        generalize w7.setCell ⟨o, 0, none⟩ (.slice P5 kk c5) = w8 at *
        obtain ⟨o0, o1⟩ := cells2 HO8.out
        obtain ⟨x0, x1⟩ := cells2 HX8.out
        obtain ⟨q0, q1⟩ := cells2 HR8.out
        have p0 := (cells_at HR8.out 0).2
        have p1 := (cells_at HR8.out 1).2
        have hrl : r < w8.heap.size := lt_of_heap HR8.out
        have hgr : gb ≠ r := by
          intro e
          subst e
          exact box_int HR8.out _ b9
        have hrg : r ≠ gb := Ne.symm hgr
        have hbr : b ≠ r := HBN.out
        have hrb : r ≠ b := Ne.symm hbr
        go_region
        obtain ⟨f0, f1⟩ := cells2 (store2 HR8.out (.slice P5 kk c5) (.slice Q5 m5 d5))
        have HF := Lib.hid (((HB8'.out.setCell (p := ⟨r, 0, none⟩) HBR.out (.slice P5 kk c5)).setCell (p := ⟨r, 1, none⟩) HBR.out (.slice Q5 m5 d5)).drew)
        have HG1 := Lib.hid (((HE8.out.other (chgT_set (i := 0) (u := .slice P5 kk c5) HR8.out) (by decide)).other (chgT_set (i := 1) (u := .slice Q5 m5 d5) (set_heap HR8.out _)) (by decide)).keep (below_drew1 _))
        have HG2 := Lib.hid (((HF8.out.other (chgT_set (i := 0) (u := .slice P5 kk c5) HR8.out) (by decide)).other (chgT_set (i := 1) (u := .slice Q5 m5 d5) (set_heap HR8.out _)) (by decide)).keep (below_drew1 _))
        have HGC : Hid (∀ p ∈ l, CtOk ((w8.setCell ⟨r, 0, none⟩ (.slice P5 kk c5)).setCell ⟨r, 1, none⟩ (.slice Q5 m5 d5)).drew p) := fun p hp => (ctok_box (ctok_box (HC8.out p hp) HR8.out) (set_heap HR8.out _)).keep (below_drew1 _)
        generalize (w8.setCell ⟨r, 0, none⟩ (.slice P5 kk c5)).setCell ⟨r, 1, none⟩ (.slice Q5 m5 d5) = wf at *
        clear q0 q1 p0 p1 o0 o1 x0 x1 b9
        have f0 : wf.drew.cell? ⟨r, 0, none⟩ = some (.slice P5 kk c5) := f0
        have f1 : wf.drew.cell? ⟨r, 1, none⟩ = some (.slice Q5 m5 d5) := f1
        generalize wf.drew = wf at *
        go_wp2_with fail
        rw [HQ.out]
        exact bodyPost_ret (v := .tuple #[.agg #[.slice P5 kk c5, .slice Q5 m5 d5], .int .u8 v, .int .i64 0]) (by simp [results, Try.results10, go_sem, f0, f1]) rfl ⟨⟨_, _, _, _, _, _, rfl, _, _, l, rfl, HG1.out.row (fun p hp => HOK.out p (List.mem_of_mem_take hp)), HG2.out.row HGC.out, HML.out⟩, HF.out⟩
      · have t6 : decide (ht < (n5 : Int)) = false := decide_eq_false hlt
        have HLT := Lib.hid hlt
        cases hdd : ctl.dead with
        | true =>
          have HQ : Hid (R = (s, 0, 0)) := by
            show _ = _
            rw [← HRR.out, pop_dead HS.out HCS.out (by rw [HHT.out, HNV.out]; exact HLT.out) hdd]
          rw [hdd] at k3
          have HG := Lib.hid hg
          have HK3 := Lib.hid k3
          clear hdd hlt hg
          go_wp2_with fail
          go_quiet (fail)
          have HD := Lib.hid (drewB (w5.alloc (.cells #[.slice P5 n5 c5, .slice Q5 m5 d5] 25)) nq (Nat.le_refl (w5.alloc (.cells #[.slice P5 n5 c5, .slice Q5 m5 d5] 25)).heap.size))
          have HO7 := Lib.hid (blk HO6.out HD.out)
          have HR7 := Lib.hid (blk HR6.out HD.out)
          have HBX7 := Lib.hid (blk HBX6.out HD.out)
          have HE27 := Lib.hid (HE2.out.keep HD.out)
          have HC7 : Hid (∀ p ∈ l, CtOk ((w5.alloc (.cells #[.slice P5 n5 c5, .slice Q5 m5 d5] 25)).drewN nq) p) := fun p hp => (HCK.out p hp).keep (HBn.out.trans (HD.out.mono HBn.out.size))
          have HB7 := Lib.hid (HB6.out.trans (HD.out.mono HB6.out.size))
          have k8 := (HD.out.cell (p := ⟨g, qq + 3, none⟩) HG.out).trans HK3.out
          have HT7 := Lib.hid (HE1.out.keep HD.out)
          clear x0 x1 o0 o1 k0 k1 k2 k3
          generalize (w5.alloc (.cells #[.slice P5 n5 c5, .slice Q5 m5 d5] 25)).drewN nq = w7 at *
          obtain ⟨o, ho⟩ : ∃ o, w5.heap.size = o := ⟨_, rfl⟩
          rw [ho] at HO7 HO5
          simp only [ho]
          clear ho HO6 HR6 HBX6 HRC6 HRB6 HE1 HE2 HB6 HBn HD
          obtain ⟨o0, o1⟩ := cells2 HO7.out
          obtain ⟨x0, x1⟩ := cells2 HBX7.out
          obtain ⟨q0, q1⟩ := cells2 HR7.out
          have p0 := (cells_at HR7.out 0).2
          have p1 := (cells_at HR7.out 1).2
          have hrl : r < w7.heap.size := lt_of_heap HR7.out
          have hro : r ≠ o := by have := HR4l.out; have := HO5.out; omega
          have hor : o ≠ r := Ne.symm hro
          go_wp2_with fail
          obtain ⟨f0, f1⟩ := cells2 (store2 HR7.out (.slice P5 n5 c5) (.slice Q5 m5 d5))
          have HF := Lib.hid ((HB7.out.setCell (p := ⟨r, 0, none⟩) HBR.out (.slice P5 n5 c5)).setCell (p := ⟨r, 1, none⟩) HBR.out (.slice Q5 m5 d5))
          have HG1 := Lib.hid ((HT7.out.other (chgT_set (i := 0) (u := .slice P5 n5 c5) HR7.out) (by decide)).other (chgT_set (i := 1) (u := .slice Q5 m5 d5) (set_heap HR7.out _)) (by decide))
          have HG2 := Lib.hid ((HE27.out.other (chgT_set (i := 0) (u := .slice P5 n5 c5) HR7.out) (by decide)).other (chgT_set (i := 1) (u := .slice Q5 m5 d5) (set_heap HR7.out _)) (by decide))
          have HGC : Hid (∀ p ∈ l, CtOk ((w7.setCell ⟨r, 0, none⟩ (.slice P5 n5 c5)).setCell ⟨r, 1, none⟩ (.slice Q5 m5 d5)) p) := fun p hp => ctok_box (ctok_box (HC7.out p hp) HR7.out) (set_heap HR7.out _)
          generalize (w7.setCell ⟨r, 0, none⟩ (.slice P5 n5 c5)).setCell ⟨r, 1, none⟩ (.slice Q5 m5 d5) = wf at *
          clear q0 q1 p0 p1 x0 x1
          rw [HQ.out]
          exact bodyPost_ret (v := .tuple #[.agg #[.slice P5 n5 c5, .slice Q5 m5 d5], .int .u8 0, .int .i64 0]) (by simp [results, Try.results10, go_sem, f0, f1]) rfl ⟨⟨_, _, _, _, _, _, rfl, _, _, l, rfl, HG1.out.row HOK.out, HG2.out.row HGC.out, HML.out⟩, HF.out⟩
        | false =>
          have HQ : Hid (R = (none_, 0, 5)) := by
            show _ = _
            rw [← HRR.out, pop_fail HS.out HCS.out (by rw [HHT.out, HNV.out]; exact HLT.out) hdd]
          rw [hdd] at k3
          have HG := Lib.hid hg
          have HK3 := Lib.hid k3
          clear hdd hlt hg
          go_wp2_with fail
          go_quiet (fail)
          have HD := Lib.hid (drewB (w5.alloc (.cells #[.slice P5 n5 c5, .slice Q5 m5 d5] 25)) nq (Nat.le_refl (w5.alloc (.cells #[.slice P5 n5 c5, .slice Q5 m5 d5] 25)).heap.size))
          have HO7 := Lib.hid (blk HO6.out HD.out)
          have HR7 := Lib.hid (blk HR6.out HD.out)
          have HBX7 := Lib.hid (blk HBX6.out HD.out)
          have HE27 := Lib.hid (HE2.out.keep HD.out)
          have HC7 : Hid (∀ p ∈ l, CtOk ((w5.alloc (.cells #[.slice P5 n5 c5, .slice Q5 m5 d5] 25)).drewN nq) p) := fun p hp => (HCK.out p hp).keep (HBn.out.trans (HD.out.mono HBn.out.size))
          have HB7 := Lib.hid (HB6.out.trans (HD.out.mono HB6.out.size))
          have k8 := (HD.out.cell (p := ⟨g, qq + 3, none⟩) HG.out).trans HK3.out
          have HT7 := Lib.hid (HE1.out.keep HD.out)
          clear x0 x1 o0 o1 k0 k1 k2 k3
          generalize (w5.alloc (.cells #[.slice P5 n5 c5, .slice Q5 m5 d5] 25)).drewN nq = w7 at *
          obtain ⟨o, ho⟩ : ∃ o, w5.heap.size = o := ⟨_, rfl⟩
          rw [ho] at HO7 HO5
          simp only [ho]
          clear ho HO6 HR6 HBX6 HRC6 HRB6 HE1 HE2 HB6 HBn HD
          obtain ⟨x0, x1⟩ := cells2 HBX7.out
          obtain ⟨q0, q1⟩ := cells2 HR7.out
          have p0 := (cells_at HR7.out 0).2
          have p1 := (cells_at HR7.out 1).2
          have hrl : r < w7.heap.size := lt_of_heap HR7.out
          go_wp2_with fail
          obtain ⟨f0, f1⟩ := cells2 (store2 HR7.out (.slice none 0 0) (.slice none 0 0))
          have HF := Lib.hid ((HB7.out.setCell (p := ⟨r, 0, none⟩) HBR.out (.slice none 0 0)).setCell (p := ⟨r, 1, none⟩) HBR.out (.slice none 0 0))
          generalize (w7.setCell ⟨r, 0, none⟩ (.slice none 0 0)).setCell ⟨r, 1, none⟩ (.slice none 0 0) = wf at *
          clear q0 q1 p0 p1
          rw [HQ.out]
          exact bodyPost_ret (v := .tuple #[.agg #[.slice none 0 0, .slice none 0 0], .int .u8 0, .int .i64 5]) (by simp [results, Try.results10, go_sem, f0, f1]) rfl ⟨⟨_, _, _, _, _, _, rfl, StIs.none_ elD wf⟩, HF.out⟩
end Go.Proofs.Ytlappkflnlbfcaa.Stk
