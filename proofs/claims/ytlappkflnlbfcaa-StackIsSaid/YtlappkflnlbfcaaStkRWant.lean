/- The document's Want, walked (gen_rdoc.py). -/
import Derived.Test.YtlappkflnlbfcaaStkRPop
import Derived.Test.YtlappkflnlbfcaaStackApartWalk
namespace Go.Proofs.Ytlappkflnlbfcaa.Stk
open Go.RowKit Row9
set_option maxRecDepth 100000
set_option maxHeartbeats 4000000
set_option linter.unusedVariables false
theorem pop_sane {s : Stk} (h : sane s = true) : popS s = match popV s.cs.getLast? s.vals with
  | none => (none_, 0, 5)
  | some (vs, v) => (⟨vs, s.cs⟩, v, 0) := by
  unfold popS
  rw [if_neg (by rw [h]; decide)]
  rfl
theorem want_notsane {s : Stk} {xs : List Int} (h : sane s = false) : wantS s xs = (none_, 1) := by unfold wantS; rw [if_pos h]
theorem want_sane {s : Stk} {xs : List Int} (h : sane s = true) : wantS s xs = match wantV s.cs.getLast? s.vals xs.reverse with
  | none => (none_, 5)
  | some vs => (⟨vs, s.cs⟩, 0) := by
  unfold wantS
  rw [if_neg (by rw [h]; decide)]
  rfl
theorem pop_sane_none {vs : List Int} {cs : List Ctl} (h : sane ⟨vs, cs⟩ = true) (hp : popV cs.getLast? vs = none) : popS ⟨vs, cs⟩ = (none_, 0, 5) := by rw [pop_sane h]; simp only [hp]
theorem pop_sane_some {vs vs1 : List Int} {u : Int} {cs : List Ctl} (h : sane ⟨vs, cs⟩ = true) (hp : popV cs.getLast? vs = some (vs1, u)) : popS ⟨vs, cs⟩ = (⟨vs1, cs⟩, u, 0) := by rw [pop_sane h]; simp only [hp]
theorem StIs.set2 {W : World} {y : Nat} {a b v : Value} {s : Stk} {A A' B B' : Option Addr} {n c n' c' m d m' d' : Nat} {t : TypeId} (h : StIs elD W v s) (hy : W.heap[y]? = some (.cells #[.slice A n c, .slice A' n' c'] t (0, 0))) (ha : a = .slice B m d) (hb : b = .slice B' m' d') : StIs elD ((W.setCell ⟨y, 0, none⟩ a).setCell ⟨y, 1, none⟩ b) v s := by
  subst ha hb
  refine (h.set_box hy).set_box (y := y) (A := B) (n := m) (c := d) (A' := A') (n' := n') (c' := c') (t := t) ?_
  rw [set_heap hy]
  rfl
theorem chg_two {W : World} {y k : Nat} {a b a' b' : Value} {o : Obj} {t : TypeId} (hk : W.heap[k]? = some o) (hy : W.heap[y]? = some (.cells #[a', b'] t (0, 0))) (hne : k ≠ y) : ((W.setCell ⟨y, 0, none⟩ a).setCell ⟨y, 1, none⟩ b).heap[k]? = some o := by
  rw [chg_set _ y 1 _ k (by rw [set_size]; exact lt_of_heap hk) (fun e => hne (Option.some.inj e)), chg_set _ y 0 _ k (lt_of_heap hk) (fun e => hne (Option.some.inj e))]
  exact hk
theorem fit_out {u y : Int} {b1 b2 b3 : Bool} (h1 : (u != 0) = b1) (h2 : (y != 0) = b2) (h3 : (u != y) = b3) : fit u y = !(b1 && b2 && b3) := by
  subst h1 h2 h3
  unfold fit
  cases a : (u == 0) <;> cases b : (y == 0) <;> cases c : (u == y) <;> simp only [bne, a, b, c] <;> rfl
/-- What Want ends with: rows of the call's own. -/
def ROpE (r : Stk × Int) (w : World) (e : Ending) (w' : World) : Prop := (∃ P n c Q m d l, e = .returned (.tuple #[.agg #[.slice P n c, .slice Q m d], .int .i64 r.2]) ∧ EO elB w' w.heap.size (.slice P n c) r.1.vals ∧ EO elD w' w.heap.size (.slice Q m d) l ∧ l.map (·.1) = r.1.cs ∧ (∀ p ∈ r.1.vals, 0 ≤ p ∧ p < 256) ∧ (∀ p ∈ l, CtOk w' p)) ∧ Below w.heap.size w w'
theorem ROpE.op {r : Stk × Int} {w w' : World} {e : Ending} (h : ROpE r w e w') : ROp r w e w' := by
  obtain ⟨⟨P, n, c, Q, m, d, l, h1, h2, h3, h4, h5, h6⟩, hb⟩ := h
  exact ⟨⟨P, n, c, Q, m, d, h1, _, _, l, rfl, h2.row h5, h3.row h6, h4⟩, hb⟩
theorem ROpE.none {w w' : World} {i : Int} (hb : Below w.heap.size w w') : ROpE (none_, i) w (.returned (.tuple #[.agg #[.slice none 0 0, .slice none 0 0], .int .i64 i])) w' :=
  ⟨⟨_, _, _, _, _, _, [], rfl, .inr (own_nil _ _ _), .inr (own_nil _ _ _), rfl, (fun p hp => by cases hp), (fun p hp => by cases hp)⟩, hb⟩
theorem rwant_eo {v x : Value} {s : Stk} {xs : List Int} {w : World} (h : StIs elD w v s) (hx : Row elB w x xs) (h1 : s.vals.length ≤ 400000) (h2 : s.cs.length ≤ 400000) (h3 : xs.length ≤ 400000) :
    Calls Try.prog 14 #[v, x] w (ROpE (wantS s xs) w) := by
  obtain ⟨Px, cx, rfl, hxc, _⟩ := hx.form
  obtain ⟨nx, hnx⟩ : ∃ n, xs.length = n := ⟨_, rfl⟩
  rw [hnx] at hx hxc h3 ⊢
  have HNX := Lib.hid hnx
  have HX := Lib.hid hx
  clear hnx hx
  obtain ⟨P, np, cp, Q, m, d, rfl⟩ := StIs.form (T := elD) h
  obtain ⟨l0, hrb0, hrc0, hml0, hnv, hnl0, hnc⟩ := h.rows
  have HB2 := Lib.hid (below2 w (.cells #[.slice P np cp, .slice Q m d] 25) (.cells #[.slice none 0 0, .slice none 0 0] 25))
  have HBX := Lib.hid (blk (heap_new w (.cells #[.slice P np cp, .slice Q m d] 25)) (below_new (w.alloc (.cells #[.slice P np cp, .slice Q m d] 25)) (.cells #[.slice none 0 0, .slice none 0 0] 25)))
  have HR := Lib.hid (heap_new (w.alloc (.cells #[.slice P np cp, .slice Q m d] 25)) (.cells #[.slice none 0 0, .slice none 0 0] 25))
  have HV := Lib.hid (h.keep HB2.out)
  simp only [size_new] at HR
  have HL1 := Lib.hid h1
  have HL2 := Lib.hid h2
  have HNC := Lib.hid hnc
  have HNV := Lib.hid hnv
  have HRC0 := Lib.hid (hrc0.keep HB2.out)
  have HRB0 := Lib.hid (hrb0.keep HB2.out)
  have HML0 := Lib.hid hml0
  obtain ⟨R, hR⟩ : ∃ R, wantS s xs = R := ⟨_, rfl⟩
  have HRR := Lib.hid hR
  rw [hR]
  have hbig : m ≤ 400000 := by omega
  have hbigv : np ≤ 400000 := by omega
  clear h h1 h2 hR hrb0 hrc0 hml0 hnv hnl0 hnc
  go_enter Try.func14, Try.ntmps14
  go_wp2_with fail
  generalize ((w.alloc (.cells #[.slice P np cp, .slice Q m d] 25)).alloc (.cells #[.slice none 0 0, .slice none 0 0] 25)) = w2 at *
  obtain ⟨b, hb0⟩ : ∃ b, w.heap.size = b := ⟨_, rfl⟩
  obtain ⟨r, hr0⟩ : ∃ r, b + 1 = r := ⟨_, rfl⟩
  have HBR : Hid (w.heap.size ≤ r) := Lib.hid (by omega)
  have HBN : Hid (b ≠ r) := Lib.hid (by omega)
  have HBB : Hid (w.heap.size ≤ b) := Lib.hid (by omega)
  rw [hb0] at HBX HR
  rw [hr0] at HR
  simp only [hb0]
  simp only [hr0]
  clear hb0 hr0
  refine (rsane_any HV.out).mono ?_
  rintro e w3 ⟨rfl, hb⟩
  have HB3 := Lib.hid (HB2.out.trans (hb.mono HB2.out.size))
  have HV3 := Lib.hid (HV.out.keep hb)
  have HRC3 := Lib.hid (HRC0.out.keep hb)
  have HRB3 := Lib.hid (HRB0.out.keep hb)
  have HBX3 := Lib.hid (blk HBX.out hb)
  have HR3 := Lib.hid (blk HR.out hb)
  clear hb HV HBX HR HB2 HRC0 HRB0
  obtain ⟨q0, q1⟩ := cells2 HR3.out
  have p0 := (cells_at HR3.out 0).2
  have p1 := (cells_at HR3.out 1).2
  have hrl : r < w3.heap.size := lt_of_heap HR3.out
  have HX3 := Lib.hid (HX.out.keep HB3.out)
  cases hs : sane s with
  | false =>
    have HQ : Hid (R = (none_, 1)) := HRR.out.symm.trans (want_notsane hs)
    go_wp2_with fail
    obtain ⟨f0, f1⟩ := cells2 (store2 HR3.out (.slice none 0 0) (.slice none 0 0))
    have HF := Lib.hid ((HB3.out.setCell (p := ⟨r, 0, none⟩) HBR.out (.slice none 0 0)).setCell (p := ⟨r, 1, none⟩) HBR.out (.slice none 0 0))
    generalize (w3.setCell ⟨r, 0, none⟩ (.slice none 0 0)).setCell ⟨r, 1, none⟩ (.slice none 0 0) = wf at *
    clear q0 q1 p0 p1
    rw [HQ.out]
    exact bodyPost_ret (v := .tuple #[.agg #[.slice none 0 0, .slice none 0 0], .int .i64 1]) (by simp [results, Try.results14, go_sem, f0, f1]) rfl (ROpE.none HF.out)
  | true =>
    have HS := Lib.hid hs
    have HQ := Lib.hid (HRR.out.symm.trans (want_sane hs))
    have e0 : IntKind.i64.wrap ((nx : Int) - 1) = (nx : Int) - 1 := IntWalk.i64_in _ (by omega)
    clear hs q0 q1 p0 p1 hrl HRR
    go_wp2_with fail
    go_loopw [6] (fun k' wr => ∃ (j : Nat) (i : Int) (vs : List Int) (P' : Option Addr) (n' c' : Nat) (Q' : Option Addr) (m' d' : Nat), k' = .int .i64 i ∧ i + 1 = (j : Int) ∧ j ≤ nx ∧ Below w.heap.size w wr ∧ wr.heap[b]? = some (.cells #[.slice P' n' c', .slice Q' m' d'] 25 (0, 0)) ∧ wr.heap[r]? = some (.cells #[.slice none 0 0, .slice none 0 0] 25 (0, 0)) ∧ StIs elD wr (.agg #[.slice P' n' c', .slice Q' m' d']) ⟨vs, s.cs⟩ ∧ sane ⟨vs, s.cs⟩ = true ∧ vs.length ≤ 400000 ∧ wantV s.cs.getLast? s.vals xs.reverse = wantV s.cs.getLast? vs (xs.take j).reverse) (fun k' _ => (intOf k' + 1).toNat)
    case atStart => exact ⟨nx, (nx : Int) - 1, s.vals, _, _, _, _, _, _, rfl, by omega, Nat.le_refl _, HB3.out, HBX3.out, HR3.out, HV3.out, HS.out, HL1.out, by rw [List.take_of_length_le (by rw [HNX.out]; exact Nat.le_refl _)]⟩
    case round =>
      obtain ⟨j, i, vs, P', n', c', Q', m', d', rfl, hj, hjn, hbw, hbx, hbr, hst, hsn, hvl, hwv⟩ := hrel
      have HBw := Lib.hid hbw
      have HBx := Lib.hid hbx
      have HBr := Lib.hid hbr
      have HSt := Lib.hid hst
      have HSn := Lib.hid hsn
      have HVl := Lib.hid hvl
      have HWv := Lib.hid hwv
      obtain ⟨x0, x1⟩ := cells2 hbx
      have hbl : b < wr.heap.size := lt_of_heap hbx
      clear hbw hbx hbr hst hsn hvl hwv
      rcases j with _ | k
      · have t1 : decide (0 ≤ i) = false := decide_eq_false (by omega)
        have HQ2 : Hid (R = (⟨vs, s.cs⟩, 0)) := by
          show _ = _
          rw [HQ.out, HWv.out]
          rfl
        clear hj hjn
        go_wp2_with fail
        refine (copied_eo HSt.out HVl.out HL2.out).mono ?_
        rintro e w5 ⟨⟨P5, n5, c5, Q5, m5, d5, l, rfl, he1, he2, hml, hok, hck⟩, hb5⟩
        have hwz := HBw.out.size
        have HR5 := Lib.hid (blk HBr.out hb5)
        have HB5 := Lib.hid (HBw.out.trans (hb5.mono HBw.out.size))
        have HE1 := Lib.hid (he1.low hwz)
        have HE2 := Lib.hid (he2.low hwz)
        have HML := Lib.hid hml
        have HOK := Lib.hid hok
        have HCK : Hid (∀ p ∈ l, CtOk w5 p) := fun p hp => (hck p hp).keep hb5
        clear hb5 he1 he2 hml hok hck x0 x1 hbl hwz
        obtain ⟨q0, q1⟩ := cells2 HR5.out
        have p0 := (cells_at HR5.out 0).2
        have p1 := (cells_at HR5.out 1).2
        have hrl : r < w5.heap.size := lt_of_heap HR5.out
        go_wp2_with fail
        obtain ⟨f0, f1⟩ := cells2 (store2 HR5.out (.slice P5 n5 c5) (.slice Q5 m5 d5))
        have HF := Lib.hid ((HB5.out.setCell (p := ⟨r, 0, none⟩) HBR.out (.slice P5 n5 c5)).setCell (p := ⟨r, 1, none⟩) HBR.out (.slice Q5 m5 d5))
        have HG1 := Lib.hid ((HE1.out.other (chgT_set (i := 0) (u := .slice P5 n5 c5) HR5.out) (by decide)).other (chgT_set (i := 1) (u := .slice Q5 m5 d5) (set_heap HR5.out _)) (by decide))
        have HG2 := Lib.hid ((HE2.out.other (chgT_set (i := 0) (u := .slice P5 n5 c5) HR5.out) (by decide)).other (chgT_set (i := 1) (u := .slice Q5 m5 d5) (set_heap HR5.out _)) (by decide))
        have HGC : Hid (∀ p ∈ l, CtOk ((w5.setCell ⟨r, 0, none⟩ (.slice P5 n5 c5)).setCell ⟨r, 1, none⟩ (.slice Q5 m5 d5)) p) := fun p hp => ctok_box (ctok_box (HCK.out p hp) HR5.out) (set_heap HR5.out _)
        generalize (w5.setCell ⟨r, 0, none⟩ (.slice P5 n5 c5)).setCell ⟨r, 1, none⟩ (.slice Q5 m5 d5) = wf at *
        clear q0 q1 p0 p1
        rw [HQ2.out]
        exact bodyPost_ret (v := .tuple #[.agg #[.slice P5 n5 c5, .slice Q5 m5 d5], .int .i64 0]) (by simp [results, Try.results14, go_sem, f0, f1]) rfl ⟨⟨_, _, _, _, _, _, l, rfl, HG1.out, HG2.out, HML.out, HOK.out, HGC.out⟩, HF.out⟩
      · obtain rfl : i = (k : Int) := by omega
        have t1 : decide (0 ≤ (k : Int)) = true := decide_eq_true (by omega)
        obtain ⟨y, hy⟩ : ∃ y, xs.getD k 0 = y := ⟨_, rfl⟩
        have hq := HWv.out
        rw [take_succ_rev xs k (by rw [HNX.out]; omega), hy] at hq
        have HY := Lib.hid hy
        have HC := Lib.hid (rpop_any HSt.out HVl.out HL2.out)
        clear hj hy
        cases hpo : popV s.cs.getLast? vs with
        | none =>
          rw [wantV_none hpo] at hq
          have HQ2 : Hid (R = (none_, 5)) := by
            show _ = _
            rw [HQ.out, hq]
          rw [pop_sane_none HSn.out hpo] at HC
          clear hq hpo
          go_wp2_with fail
          refine HC.out.mono ?_
          rintro e w4 ⟨⟨P4, n4, c4, Q4, m4, d4, rfl, hst4⟩, hb4⟩
          have HB4 := Lib.hid (HBw.out.trans ((hb4.trans ((below_new w4 (.cells #[.slice P4 n4 c4, .slice Q4 m4 d4] 25)).mono hb4.size)).mono HBw.out.size))
          have HR4 := Lib.hid (blk HBr.out (hb4.trans ((below_new w4 (.cells #[.slice P4 n4 c4, .slice Q4 m4 d4] 25)).mono hb4.size)))
          clear hb4 hst4 x0 x1 hbl
          obtain ⟨q0, q1⟩ := cells2 HR4.out
          have p0 := (cells_at HR4.out 0).2
          have p1 := (cells_at HR4.out 1).2
          have hrl : r < (w4.alloc (.cells #[.slice P4 n4 c4, .slice Q4 m4 d4] 25)).heap.size := lt_of_heap HR4.out
          go_wp2_with fail
          generalize w4.alloc (.cells #[.slice P4 n4 c4, .slice Q4 m4 d4] 25) = w5 at *
          obtain ⟨f0, f1⟩ := cells2 (store2 HR4.out (.slice none 0 0) (.slice none 0 0))
          have HF := Lib.hid ((HB4.out.setCell (p := ⟨r, 0, none⟩) HBR.out (.slice none 0 0)).setCell (p := ⟨r, 1, none⟩) HBR.out (.slice none 0 0))
          generalize (w5.setCell ⟨r, 0, none⟩ (.slice none 0 0)).setCell ⟨r, 1, none⟩ (.slice none 0 0) = wf at *
          clear q0 q1 p0 p1
          rw [HQ2.out]
          exact bodyPost_ret (v := .tuple #[.agg #[.slice none 0 0, .slice none 0 0], .int .i64 5]) (by simp [results, Try.results14, go_sem, f0, f1]) rfl (ROpE.none HF.out)
        | some pr =>
          obtain ⟨vs1, u⟩ := pr
          rw [wantV_some hpo] at hq
          have HQ1 := Lib.hid hq
          have HVL := Lib.hid (Nat.le_trans (popV_len hpo) HVl.out)
          have HSN1 := Lib.hid (popV_sane HSn.out hpo)
          rw [pop_sane_some HSn.out hpo] at HC
          clear hq hpo
          go_wp2_with fail
          refine HC.out.mono ?_
          rintro e w4 ⟨⟨P4, n4, c4, Q4, m4, d4, rfl, hst4⟩, hb4⟩
          have HBt := Lib.hid (hb4.trans ((below_new w4 (.cells #[.slice P4 n4 c4, .slice Q4 m4 d4] 25)).mono hb4.size))
          have HB4 := Lib.hid (HBw.out.trans (HBt.out.mono HBw.out.size))
          have HR4 := Lib.hid (blk HBr.out HBt.out)
          have HX4 := Lib.hid (blk HBx.out HBt.out)
          have HO4 := Lib.hid (heap_new w4 (.cells #[.slice P4 n4 c4, .slice Q4 m4 d4] 25))
          have HS4 := Lib.hid (hst4.keep (below_new w4 (.cells #[.slice P4 n4 c4, .slice Q4 m4 d4] 25)))
          have HBO : Hid (b < w4.heap.size) := Nat.lt_of_lt_of_le (lt_of_heap HBx.out) hb4.size
          clear hb4 hst4 x0 x1 hbl
          obtain ⟨gx, ox, rfl, hgx, hcx, hr1, hr2⟩ := byte_at (HX.out.keep HB4.out) (j := k) (by rw [HNX.out]; omega)
          rw [HY.out] at hcx
          have i1 : (0 : Int) ≤ (k : Int) := by omega
          have i2 : (k : Int) < (nx : Int) := by omega
          have e3 : IntKind.i64.wrap ((k : Int) - 1) = (k : Int) - 1 := IntWalk.i64_in _ (by omega)
          clear hr1 hr2 hgx
          obtain ⟨q0, q1⟩ := cells2 HR4.out
          have p0 := (cells_at HR4.out 0).2
          have p1 := (cells_at HR4.out 1).2
          have hrl : r < (w4.alloc (.cells #[.slice P4 n4 c4, .slice Q4 m4 d4] 25)).heap.size := lt_of_heap HR4.out
          obtain ⟨x0, x1⟩ := cells2 HX4.out
          have xp0 := (cells_at HX4.out 0).2
          have xp1 := (cells_at HX4.out 1).2
          have hbl : b < (w4.alloc (.cells #[.slice P4 n4 c4, .slice Q4 m4 d4] 25)).heap.size := lt_of_heap HX4.out
          obtain ⟨o0, o1⟩ := cells2 HO4.out
          obtain ⟨b1, hb1⟩ : ∃ b1, (u != 0) = b1 := ⟨_, rfl⟩
          obtain ⟨b2, hb2⟩ : ∃ b2, (y != 0) = b2 := ⟨_, rfl⟩
          obtain ⟨b3, hb3⟩ : ∃ b3, (u != y) = b3 := ⟨_, rfl⟩
          have HFT := Lib.hid (fit_out hb1 hb2 hb3)
          have hbo : b ≠ w4.heap.size := by have := HBO.out; omega
          have hbr0 : b ≠ r := HBN.out
          have hrb0 : r ≠ b := Ne.symm hbr0
          cases b1 <;> cases b2 <;> cases b3
          all_goals first
            | (have HFN : Hid (fit u y = false) := HFT.out
               have HQ2 : Hid (R = (none_, 5)) := by
                 show _ = _
                 rw [HQ.out, HQ1.out, HFN.out]
                 rfl
               go_wp2_with fail
               generalize w4.alloc (.cells #[.slice P4 n4 c4, .slice Q4 m4 d4] 25) = w5 at *
               obtain ⟨f0, f1⟩ := cells2 (store2 HR4.out (.slice none 0 0) (.slice none 0 0))
               have HF := Lib.hid ((HB4.out.setCell (p := ⟨r, 0, none⟩) HBR.out (.slice none 0 0)).setCell (p := ⟨r, 1, none⟩) HBR.out (.slice none 0 0))
               generalize (w5.setCell ⟨r, 0, none⟩ (.slice none 0 0)).setCell ⟨r, 1, none⟩ (.slice none 0 0) = wf at *
               clear q0 q1 p0 p1 x0 x1 o0 o1 xp0 xp1 hcx
               rw [HQ2.out]
               exact bodyPost_ret (v := .tuple #[.agg #[.slice none 0 0, .slice none 0 0], .int .i64 5]) (by simp [results, Try.results14, go_sem, f0, f1]) rfl (ROpE.none HF.out))
            | (have HFY : Hid (fit u y = true) := HFT.out
               have HQ2 : Hid (wantV s.cs.getLast? s.vals xs.reverse = wantV s.cs.getLast? vs1 (xs.take k).reverse) := by
                 show _ = _
                 rw [HQ1.out, HFY.out]
                 rfl
               go_wp2_with fail
               have HSF := Lib.hid (HS4.out.set2 (a := .slice P4 n4 c4) (b := .slice Q4 m4 d4) HX4.out rfl rfl)
               have HXF := Lib.hid (store2 HX4.out (.slice P4 n4 c4) (.slice Q4 m4 d4))
               have HRF := Lib.hid (chg_two (a := .slice P4 n4 c4) (b := .slice Q4 m4 d4) HR4.out HX4.out hrb0)
               have HF := Lib.hid ((HB4.out.setCell (p := ⟨b, 0, none⟩) HBB.out (.slice P4 n4 c4)).setCell (p := ⟨b, 1, none⟩) HBB.out (.slice Q4 m4 d4))
               generalize ((w4.alloc (.cells #[.slice P4 n4 c4, .slice Q4 m4 d4] 25)).setCell ⟨b, 0, none⟩ (.slice P4 n4 c4)).setCell ⟨b, 1, none⟩ (.slice Q4 m4 d4) = wf at *
               clear q0 q1 p0 p1 x0 x1 o0 o1 xp0 xp1 hcx
               go_roundw
               case rel => exact ⟨k, (k : Int) - 1, vs1, _, _, _, _, _, _, rfl, by omega, by omega, HF.out, HXF.out, HRF.out, HSF.out, HSN1.out, HVL.out, HQ2.out⟩
               case measure => simp [intOf])
theorem rwant_any {v x : Value} {s : Stk} {xs : List Int} {w : World} (h : StIs elD w v s) (hx : Row elB w x xs) (h1 : s.vals.length ≤ 400000) (h2 : s.cs.length ≤ 400000) (h3 : xs.length ≤ 400000) :
    Calls Try.prog 14 #[v, x] w (ROp (wantS s xs) w) := (rwant_eo h hx h1 h2 h3).mono fun _ _ h => h.op
end Go.Proofs.Ytlappkflnlbfcaa.Stk
