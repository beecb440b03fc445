/- StackIs: whether any stack may be, and what is made of it: as the document says: walked (gen_stackis.py). -/
import Derived.Test.YtlappkflnlbfcaaStkOurs9
import Derived.Test.YtlappkflnlbfcaaStkRKill
import Derived.Test.YtlappkflnlbfcaaStkRLabel
import Derived.Test.YtlappkflnlbfcaaStkSmallL
namespace Go.Proofs.Ytlappkflnlbfcaa.Stk
open Go.RowKit Row9
set_option maxRecDepth 100000
set_option maxHeartbeats 16000000
set_option linter.unusedVariables false
theorem StIs.setg {e : TypeId} {hi} {W : World} {y i : Nat} {u v : Value} {s : Stk} {A A' : Option Addr} {n c n' c' : Nat} {t : TypeId} (h : StIs (elCt e hi) W v s) (hy : W.heap[y]? = some (.cells #[.slice A n c, .slice A' n' c'] t (0, 0))) : StIs (elCt e hi) (W.setCell ⟨y, i, none⟩ u) v s := by
  obtain ⟨a, b, l, h1, h2, h3, h4⟩ := h
  have hb : ∀ {v : Value} {l : List Int}, Row elB W v l → Row elB (W.setCell ⟨y, i, none⟩ u) v l := fun h => row_box (T := elB) (fun a => ⟨.u8, a, rfl⟩) (fun p hp => hp) h hy
  exact ⟨a, b, l, h1, hb h2, row_box (T := elCt e hi) (fun a => ⟨.i64, a.1.op, rfl⟩) (fun p hp => ⟨hb hp.1, hp.2⟩) h3 hy, h4⟩
/-- Two cells of a box of slices, stored: stacks and bytes stay. -/
theorem StIs.setP {W : World} {y : Nat} {v : Value} {s : Stk} {A A' B B' : Option Addr} {n c n' c' m d m' d' : Nat} {t : TypeId} (h : StIs elP W v s) (hy : W.heap[y]? = some (.cells #[.slice A n c, .slice A' n' c'] t (0, 0))) : StIs elP ((W.setCell ⟨y, 0, none⟩ (.slice B m d)).setCell ⟨y, 1, none⟩ (.slice B' m' d')) v s :=
  StIs.setg (e := 46) (hi := infoP) (StIs.setg (e := 46) (hi := infoP) h hy) (show (W.setCell ⟨y, 0, none⟩ (.slice B m d)).heap[y]? = some (Obj.cells #[.slice B m d, .slice A' n' c'] t (0, 0)) by rw [set_heap hy]; rfl)
theorem StIs.setD {W : World} {y : Nat} {v : Value} {s : Stk} {A A' B B' : Option Addr} {n c n' c' m d m' d' : Nat} {t : TypeId} (h : StIs elD W v s) (hy : W.heap[y]? = some (.cells #[.slice A n c, .slice A' n' c'] t (0, 0))) : StIs elD ((W.setCell ⟨y, 0, none⟩ (.slice B m d)).setCell ⟨y, 1, none⟩ (.slice B' m' d')) v s :=
  StIs.setg (e := 49) (hi := infoD) (StIs.setg (e := 49) (hi := infoD) h hy) (show (W.setCell ⟨y, 0, none⟩ (.slice B m d)).heap[y]? = some (Obj.cells #[.slice B m d, .slice A' n' c'] t (0, 0)) by rw [set_heap hy]; rfl)
theorem rowB_set2 {W : World} {y : Nat} {v : Value} {l : List Int} {A A' B B' : Option Addr} {n c n' c' m d m' d' : Nat} {t : TypeId} (h : Row elB W v l) (hy : W.heap[y]? = some (.cells #[.slice A n c, .slice A' n' c'] t (0, 0))) : Row elB ((W.setCell ⟨y, 0, none⟩ (.slice B m d)).setCell ⟨y, 1, none⟩ (.slice B' m' d')) v l :=
  rowB_box (rowB_box h hy) (show (W.setCell ⟨y, 0, none⟩ (.slice B m d)).heap[y]? = some (Obj.cells #[.slice B m d, .slice A' n' c'] t (0, 0)) by rw [set_heap hy]; rfl)
theorem small_le {s : Stk} (h : smallS s = true) : s.vals.length ≤ 200 ∧ s.cs.length ≤ 100 ∧ ∀ c ∈ s.cs, c.fin.length ≤ 20 := by
  unfold smallS at h
  simp only [Bool.and_eq_true, decide_eq_true_eq, List.all_eq_true] at h
  exact ⟨h.1.1, h.1.2, h.2⟩
theorem op_le {s : Stk} (xs : List Int) (op : Int) (h : s.cs.length ≤ 100) : (pushS s xs).1.cs.length ≤ 400000 ∧ (popS s).1.cs.length ≤ 400000 ∧ (wantS s xs).1.cs.length ≤ 400000 ∧ (openS s op xs).1.cs.length ≤ 400000 ∧ (closeS s).1.cs.length ≤ 400000 ∧ (killS s).1.cs.length ≤ 400000 := by
  have h1 := (act_le s ⟨0, op, xs⟩).2
  have h2 := (act_le s ⟨2, op, xs⟩).2
  have h3 := (act_le s ⟨3, op, xs⟩).2
  have h4 := (act_le s ⟨5, op, xs⟩).2
  have h5 := (act_le s ⟨6, op, xs⟩).2
  have h6 := (act_le s ⟨7, op, xs⟩).2
  rw [act_push (.inl rfl)] at h1
  rw [act_pop rfl] at h2
  rw [act_want (.inl rfl)] at h3
  rw [act_open rfl] at h4
  rw [act_close rfl] at h5
  rw [act_kill rfl] at h6
  simp only at h1 h2 h3 h4 h5 h6
  exact ⟨by omega, by omega, by omega, by omega, by omega, by omega⟩
theorem Label_go {v : Value} {s : Stk} {n : Int} {w : World} (h : StIs elP w v s) (hn : w64 n) (h2 : s.cs.length ≤ 400000) (hf : ∀ c ∈ s.cs, c.fin.length ≤ 20) : Calls Try.prog 21 #[v, .int .i64 n] w (LabTold (labelS s n) w) := by
  obtain ⟨a, c, l, rfl, ha, hc, hl⟩ := h
  obtain ⟨vals, cs⟩ := s
  simp only at hl ha hf h2
  subst hl
  exact Label_any ha hc hn (by rw [List.length_map] at h2; exact h2) (fun p hp => by have := hf p.1 (List.mem_map_of_mem hp); omega)
theorem rLabel_go {v : Value} {s : Stk} {n : Int} {w : World} (h : StIs elD w v s) (hn : w64 n) (h2 : s.cs.length ≤ 400000) (hf : ∀ c ∈ s.cs, c.fin.length ≤ 20) : Calls Try.prog 22 #[v, .int .i64 n] w (LabTold (labelS s n) w) := by
  obtain ⟨a, c, l, rfl, ha, hc, hl⟩ := h
  obtain ⟨vals, cs⟩ := s
  simp only at hl ha hf h2
  subst hl
  exact rLabel_any ha hc hn (by rw [List.length_map] at h2; exact h2) (fun p hp => by have := hf p.1 (List.mem_map_of_mem hp); omega)
theorem ld_ctlP {W : World} {x : Nat} {op ht : Int} {dd : Bool} {R : Option Addr} {k f : Nat} {t : TypeId} (h : W.heap[x]? = some (.cells #[.int .i64 op, .slice R k f, .int .i64 ht, .bool dd] t (0, 0))) : (Instr.loadAt 46 (.pointer (some ⟨x, 0, none⟩))).run Try.prog W = .ok (.agg #[.int .i64 op, .slice R k f, .int .i64 ht, .bool dd]) W := by
  obtain ⟨h0, h1, h2, h3⟩ := cells4 h
  go_simp
theorem ld_ctlD {W : World} {x : Nat} {op ht : Int} {dd : Bool} {R : Option Addr} {k f : Nat} {t : TypeId} (h : W.heap[x]? = some (.cells #[.int .i64 op, .slice R k f, .int .i64 ht, .bool dd] t (0, 0))) : (Instr.loadAt 49 (.pointer (some ⟨x, 0, none⟩))).run Try.prog W = .ok (.agg #[.int .i64 op, .slice R k f, .int .i64 ht, .bool dd]) W := by
  obtain ⟨h0, h1, h2, h3⟩ := cells4 h
  go_simp
theorem run_eqB (x y : Operand) (a b : Bool) (r : Bool) (h : (a == b) = r) (W : World) : (do eqGuard BinOp.eql 4 x y (.bool a) (.bool b); binOp BinOp.eql 4 (.bool a) (.bool b) : Sem Value).run Try.prog W = .ok (.bool r) W := by
  subst h; go_simp
theorem run_neB (x y : Operand) (a b : Int) (r : Bool) (h : (a != b) = r) (W : World) : (do eqGuard BinOp.neq 5 x y (.int .u8 a) (.int .u8 b); binOp BinOp.neq 5 (.int .u8 a) (.int .u8 b) : Sem Value).run Try.prog W = .ok (.bool r) W := by
  subst h; go_simp
theorem stackis_any {v u : Value} {s : Stk} {xs : List Int} {op n : Int} {w : World} (h : StIs elD w v s) (hu : Row elB w u xs) (hop : w64 op) (hn : w64 n) : Calls Try.prog 3 #[v, u, .int .i64 op, .int .i64 n] w (Yes w) := by
  obtain ⟨P, np, cp, Q, m, d, rfl⟩ := StIs.form (T := elD) h
  obtain ⟨Px, cx, rfl, hcap, _⟩ := hu.form
  obtain ⟨nx, hnx⟩ : ∃ n, xs.length = n := ⟨_, rfl⟩
  rw [hnx] at hu hcap ⊢
  have HNX := Lib.hid hnx
  have HOP := Lib.hid hop
  have HN := Lib.hid hn
  have HW := Lib.hid (below_new w (.cells #[.slice P np cp, .slice Q m d] 25))
  have HA := Lib.hid (awake_any (w.alloc (.cells #[.slice P np cp, .slice Q m d] 25)))
  have SS := Lib.hid (h.keep HW.out)
  have RX := Lib.hid (hu.keep HW.out)
  have XB := Lib.hid (heap_new w (.cells #[.slice P np cp, .slice Q m d] 25))
  clear h hu hnx hop hn
  go_enter Try.func3, Try.ntmps3
  go_wp2_with fail
  generalize w.alloc (.cells #[.slice P np cp, .slice Q m d] 25) = w0 at *
  obtain ⟨b, hb0⟩ : ∃ b, w.heap.size = b := ⟨_, rfl⟩
  have HWB : Hid (w.heap.size ≤ b) := Lib.hid (by omega)
  rw [hb0] at XB
  simp only [hb0]
  clear hb0
  refine HA.out.mono ?_
  rintro e w1 ⟨rfl, hb⟩
  have SS := Lib.hid (SS.out.keep hb)
  have RX := Lib.hid (RX.out.keep hb)
  have XB := Lib.hid (blk XB.out hb)
  have HW := Lib.hid (HW.out.trans (hb.mono HW.out.size))
  clear hb HA
  obtain ⟨c0, c1⟩ := cells2 XB.out
  have hbl : b < w1.heap.size := lt_of_heap XB.out
  go_wp2_with fail
  clear c0 c1 hbl
  refine (small_any SS.out).mono ?_
  rintro e w2 ⟨rfl, hb⟩
  have SS := Lib.hid (SS.out.keep hb)
  have RX := Lib.hid (RX.out.keep hb)
  have XB := Lib.hid (blk XB.out hb)
  have HW := Lib.hid (HW.out.trans (hb.mono HW.out.size))
  clear hb
  cases hsm : smallS s with
  | false =>
    go_wp2_with fail
    exact bodyPost_ret (v := .bool true) (by simp [results, Try.results3, go_sem]) rfl ⟨rfl, HW.out⟩
  | true =>
    by_cases hm50 : 50 < nx
    · have t1 : decide ((50 : Int) < (nx : Int)) = true := decide_eq_true (by omega)
      have t1' : decide (50 < nx) = true := decide_eq_true hm50
      go_wp2_with fail
      exact bodyPost_ret (v := .bool true) (by simp [results, Try.results3, go_sem]) rfl ⟨rfl, HW.out⟩
    · have t1 : decide ((50 : Int) < (nx : Int)) = false := decide_eq_false (by omega)
      have t1' : decide (50 < nx) = false := decide_eq_false hm50
      have HM := Lib.hid (small_le hsm)
      have HLV : Hid (s.vals.length ≤ 400000) := Lib.hid (by have := HM.out.1; omega)
      have HLC : Hid (s.cs.length ≤ 400000) := Lib.hid (by have := HM.out.2.1; omega)
      have HLX : Hid (xs.length ≤ 400000) := Lib.hid (by have := HNX.out; omega)
      have HLE := Lib.hid (op_le xs op HM.out.2.1)
      clear hsm hm50
      obtain ⟨c0, c1⟩ := cells2 XB.out
      have hbl : b < w2.heap.size := lt_of_heap XB.out
      go_wp2_with fail
      clear t1 t1' c0 c1 hbl
      refine (ours9_any SS.out HLC.out).mono ?_
      rintro e w3 ⟨⟨P3, n3, c3, Q3, m3, d3, rfl, hst⟩, hb⟩
      have HLt := Lib.hid (Nat.lt_of_lt_of_le (lt_of_heap XB.out) hb.size)
      have HT := Lib.hid (hb.trans ((below_new w3 (.cells #[.slice P3 n3 c3, .slice Q3 m3 d3] 30)).mono hb.size))
      have SS := Lib.hid (SS.out.keep HT.out)
      have RX := Lib.hid (RX.out.keep HT.out)
      have XB := Lib.hid (blk XB.out HT.out)
      have HW := Lib.hid (HW.out.trans (HT.out.mono HW.out.size))
      have SOp := Lib.hid (hst.keep (below_new w3 (.cells #[.slice P3 n3 c3, .slice Q3 m3 d3] 30)))
      have XO := Lib.hid (heap_new w3 (.cells #[.slice P3 n3 c3, .slice Q3 m3 d3] 30))
      clear hb HT hst
      obtain ⟨l00, l01⟩ := cells2 XO.out
      have l0l := lt_of_heap XO.out
      go_wp2_with fail
      clear l00 l01 l0l
      generalize w3.alloc (.cells #[.slice P3 n3 c3, .slice Q3 m3 d3] 30) = v3 at *
      obtain ⟨o, hx⟩ : ∃ x, w3.heap.size = x := ⟨_, rfl⟩
      rw [hx] at XO HLt
      have Lo := HLt
      simp only [hx]
      clear hx HLt
      have LWo : Hid (w.heap.size ≤ o) := Lib.hid (by have := HWB.out; have := Lo.out; omega)
      obtain ⟨⟨A1, e1⟩, hr1⟩ : ∃ r, pushS s xs = r := ⟨_, rfl⟩
      have HR1 := Lib.hid hr1
      clear hr1
      have HK := Lib.hid (Push_st SOp.out RX.out HLV.out HLC.out HLX.out)
      rw [HR1.out] at HK
      refine (HK.out).mono ?_
      rintro e w4 hen
      obtain ⟨P4, n4, c4, Q4, m4, d4, rfl, hst, hb⟩ := hen.of
      clear hen HK
      have HLt := Lib.hid (Nat.lt_of_lt_of_le (lt_of_heap XO.out) hb.size)
      have HT := Lib.hid (hb.trans ((below_new w4 (.cells #[.slice P4 n4 c4, .slice Q4 m4 d4] 30)).mono hb.size))
      have SS := Lib.hid (SS.out.keep HT.out)
      have RX := Lib.hid (RX.out.keep HT.out)
      have XB := Lib.hid (blk XB.out HT.out)
      have SOp := Lib.hid (SOp.out.keep HT.out)
      have XO := Lib.hid (blk XO.out HT.out)
      have HW := Lib.hid (HW.out.trans (HT.out.mono HW.out.size))
      have SAp := Lib.hid (hst.keep (below_new w4 (.cells #[.slice P4 n4 c4, .slice Q4 m4 d4] 30)))
      have XA := Lib.hid (heap_new w4 (.cells #[.slice P4 n4 c4, .slice Q4 m4 d4] 30))
      clear hb HT hst
      obtain ⟨l00, l01⟩ := cells2 XB.out
      have l0l := lt_of_heap XB.out
      go_wp2_with fail
      clear l00 l01 l0l
      generalize w4.alloc (.cells #[.slice P4 n4 c4, .slice Q4 m4 d4] 30) = v4 at *
      obtain ⟨xa, hx⟩ : ∃ x, w4.heap.size = x := ⟨_, rfl⟩
      rw [hx] at XA HLt
      have Lxa := HLt
      simp only [hx]
      clear hx HLt
      have LWxa : Hid (w.heap.size ≤ xa) := Lib.hid (by have := LWo.out; have := Lxa.out; omega)
      have HK := Lib.hid (rpush_any SS.out RX.out HLV.out HLC.out HLX.out)
      rw [HR1.out] at HK
      refine (HK.out).mono ?_
      rintro e w5 ⟨⟨P5, n5, c5, Q5, m5, d5, rfl, hst⟩, hb⟩
      clear HK
      have HLt := Lib.hid (Nat.lt_of_lt_of_le (lt_of_heap XA.out) hb.size)
      have HT := Lib.hid (hb.trans ((below_new w5 (.cells #[.slice P5 n5 c5, .slice Q5 m5 d5] 25)).mono hb.size))
      have SS := Lib.hid (SS.out.keep HT.out)
      have RX := Lib.hid (RX.out.keep HT.out)
      have XB := Lib.hid (blk XB.out HT.out)
      have SOp := Lib.hid (SOp.out.keep HT.out)
      have XO := Lib.hid (blk XO.out HT.out)
      have SAp := Lib.hid (SAp.out.keep HT.out)
      have XA := Lib.hid (blk XA.out HT.out)
      have HW := Lib.hid (HW.out.trans (HT.out.mono HW.out.size))
      have SBd := Lib.hid (hst.keep (below_new w5 (.cells #[.slice P5 n5 c5, .slice Q5 m5 d5] 25)))
      have XC := Lib.hid (heap_new w5 (.cells #[.slice P5 n5 c5, .slice Q5 m5 d5] 25))
      clear hb HT hst
      obtain ⟨l00, l01⟩ := cells2 XO.out
      have l0l := lt_of_heap XO.out
      go_wp2_with fail
      clear l00 l01 l0l
      generalize w5.alloc (.cells #[.slice P5 n5 c5, .slice Q5 m5 d5] 25) = v5 at *
      obtain ⟨xc, hx⟩ : ∃ x, w5.heap.size = x := ⟨_, rfl⟩
      rw [hx] at XC HLt
      have Lxc := HLt
      simp only [hx]
      clear hx HLt
      have LWxc : Hid (w.heap.size ≤ xc) := Lib.hid (by have := LWxa.out; have := Lxc.out; omega)
      obtain ⟨⟨A2, t2, e2⟩, hr2⟩ : ∃ r, popS s = r := ⟨_, rfl⟩
      have HR2 := Lib.hid hr2
      clear hr2
      have HK := Lib.hid (Pop_st SOp.out HLV.out HLC.out)
      rw [HR2.out] at HK
      refine (HK.out).mono ?_
      rintro e w6 hen
      obtain ⟨P6, n6, c6, Q6, m6, d6, rfl, hst, hb⟩ := hen.of
      clear hen HK
      have HLt := Lib.hid (Nat.lt_of_lt_of_le (lt_of_heap XC.out) hb.size)
      have HT := Lib.hid (hb.trans ((below_new w6 (.cells #[.slice P6 n6 c6, .slice Q6 m6 d6] 30)).mono hb.size))
      have SS := Lib.hid (SS.out.keep HT.out)
      have RX := Lib.hid (RX.out.keep HT.out)
      have XB := Lib.hid (blk XB.out HT.out)
      have SOp := Lib.hid (SOp.out.keep HT.out)
      have XO := Lib.hid (blk XO.out HT.out)
      have SAp := Lib.hid (SAp.out.keep HT.out)
      have XA := Lib.hid (blk XA.out HT.out)
      have SBd := Lib.hid (SBd.out.keep HT.out)
      have XC := Lib.hid (blk XC.out HT.out)
      have HW := Lib.hid (HW.out.trans (HT.out.mono HW.out.size))
      have SCp := Lib.hid (hst.keep (below_new w6 (.cells #[.slice P6 n6 c6, .slice Q6 m6 d6] 30)))
      have XD := Lib.hid (heap_new w6 (.cells #[.slice P6 n6 c6, .slice Q6 m6 d6] 30))
      clear hb HT hst
      obtain ⟨l00, l01⟩ := cells2 XB.out
      have l0l := lt_of_heap XB.out
      go_wp2_with fail
      clear l00 l01 l0l
      generalize w6.alloc (.cells #[.slice P6 n6 c6, .slice Q6 m6 d6] 30) = v6 at *
      obtain ⟨xd, hx⟩ : ∃ x, w6.heap.size = x := ⟨_, rfl⟩
      rw [hx] at XD HLt
      have Lxd := HLt
      simp only [hx]
      clear hx HLt
      have LWxd : Hid (w.heap.size ≤ xd) := Lib.hid (by have := LWxc.out; have := Lxd.out; omega)
      have HK := Lib.hid (rpop_any SS.out HLV.out HLC.out)
      rw [HR2.out] at HK
      refine (HK.out).mono ?_
      rintro e w7 ⟨⟨P7, n7, c7, Q7, m7, d7, rfl, hst⟩, hb⟩
      clear HK
      have HLt := Lib.hid (Nat.lt_of_lt_of_le (lt_of_heap XD.out) hb.size)
      have HT := Lib.hid (hb.trans ((below_new w7 (.cells #[.slice P7 n7 c7, .slice Q7 m7 d7] 25)).mono hb.size))
      have SS := Lib.hid (SS.out.keep HT.out)
      have RX := Lib.hid (RX.out.keep HT.out)
      have XB := Lib.hid (blk XB.out HT.out)
      have SOp := Lib.hid (SOp.out.keep HT.out)
      have XO := Lib.hid (blk XO.out HT.out)
      have SAp := Lib.hid (SAp.out.keep HT.out)
      have XA := Lib.hid (blk XA.out HT.out)
      have SBd := Lib.hid (SBd.out.keep HT.out)
      have XC := Lib.hid (blk XC.out HT.out)
      have SCp := Lib.hid (SCp.out.keep HT.out)
      have XD := Lib.hid (blk XD.out HT.out)
      have HW := Lib.hid (HW.out.trans (HT.out.mono HW.out.size))
      have SDd := Lib.hid (hst.keep (below_new w7 (.cells #[.slice P7 n7 c7, .slice Q7 m7 d7] 25)))
      have XE := Lib.hid (heap_new w7 (.cells #[.slice P7 n7 c7, .slice Q7 m7 d7] 25))
      clear hb HT hst
      go_wp2_with fail
      generalize w7.alloc (.cells #[.slice P7 n7 c7, .slice Q7 m7 d7] 25) = v7 at *
      obtain ⟨xe, hx⟩ : ∃ x, w7.heap.size = x := ⟨_, rfl⟩
      rw [hx] at XE HLt
      have Lxe := HLt
      simp only [hx]
      clear hx HLt
      have LWxe : Hid (w.heap.size ≤ xe) := Lib.hid (by have := LWxd.out; have := Lxe.out; omega)
      have HA1 : Hid (A1.cs.length ≤ 400000) := Lib.hid (by have := HLE.out.1; rw [HR1.out] at this; exact this)
      have HA2 : Hid (A2.cs.length ≤ 400000) := Lib.hid (by have := HLE.out.2.1; rw [HR2.out] at this; exact this)
      refine Stab.region 226 [.is (.agg #[.slice P4 n4 c4, .slice Q4 m4 d4]), .fits (fun v W => StIs elD W v A1), .is (.agg #[.slice P5 n5 c5, .slice Q5 m5 d5]), .is (.bool true), .is (.bool false), .is (.bool false), .is (.int .i64 e1), .is (.int .i64 e1), .is (.bool false), .is (.bool false), .is (.bool false), .is (.agg #[.slice P6 n6 c6, .slice Q6 m6 d6]), .fits (fun v W => StIs elD W v A2), .is (.agg #[.slice P7 n7 c7, .slice Q7 m7 d7]), .is (.bool true), .is (.bool false), .is (.bool false), .is (.bool false), .is (.int .u8 t2), .is (.int .u8 t2), .is (.bool false), .is (.bool false), .is (.bool false), .is (.int .i64 e2), .is (.int .i64 e2), .is (.bool false), .is (.bool false)] (by kernel_rfl) (by kernel_rfl) rfl rfl ?_ ?_
      · skip
        with_reducible refine Stab.steps_cons ?_ ?_ ?_
        · exact Stab.owes_load rfl (fun v W hb hv => by subst hv; exact ld_stk (blk XA.out hb)) rfl
        · exact trivial
        with_reducible refine Stab.steps_cons ?_ ?_ ?_
        · (refine Stab.owes_call Try.func12 (by kernel_rfl) (by kernel_rfl) rfl (fun vs W hb hall => ?_) rfl; obtain ⟨_, _, rfl, rfl, rfl⟩ := hall; refine (theirs_any (SAp.out.keep hb) HA1.out).mono ?_; rintro e w2 ⟨⟨P', n', c', Q', m', d', rfl, hv⟩, hb2⟩; exact ⟨_, rfl, hb2, hv⟩)
        · exact fun v w w' h hb => StIs.keep h hb
        with_reducible refine Stab.steps_cons ?_ ?_ ?_
        · exact Stab.owes_load rfl (fun v W hb hv => by subst hv; exact ld_stD (blk XC.out hb)) rfl
        · exact trivial
        with_reducible refine Stab.steps_cons ?_ ?_ ?_
        · (refine Stab.owes_call Try.func11 (by kernel_rfl) (by kernel_rfl) rfl (fun vs W hb hall => ?_) rfl; obtain ⟨v1, _, rfl, h1, v2, _, rfl, h2, rfl⟩ := hall; have h1 : StIs elD W v1 A1 := h1; have h2 := (show v2 = _ from h2); subst h2; refine (same_yes h1 (SBd.out.keep hb) (by have := HA1.out; omega)).mono ?_; rintro e w2 ⟨rfl, hb2⟩; exact ⟨_, rfl, hb2, rfl⟩)
        · exact trivial
        with_reducible refine Stab.steps_cons ?_ ?_ ?_
        · exact Stab.owes_not rfl rfl (fun W => Stab.run_not true W) rfl
        · exact trivial
        with_reducible refine Stab.steps_cons ?_ ?_ ?_
        · exact Stab.owes_move rfl rfl rfl
        · exact trivial
        with_reducible refine Stab.steps_cons ?_ ?_ ?_
        · exact Stab.owes_move rfl rfl rfl
        · exact trivial
        with_reducible refine Stab.steps_cons ?_ ?_ ?_
        · exact Stab.owes_move rfl rfl rfl
        · exact trivial
        with_reducible refine Stab.steps_cons ?_ ?_ ?_
        · exact Stab.owes_bin rfl rfl rfl (fun W => Stab.run_neE _ _ e1 e1 false (by simp) W) rfl
        · exact trivial
        with_reducible refine Stab.steps_cons ?_ ?_ ?_
        · exact Stab.owes_pick rfl rfl rfl rfl
        · exact trivial
        with_reducible refine Stab.steps_cons ?_ ?_ ?_
        · exact Stab.owes_move rfl rfl rfl
        · exact trivial
        with_reducible refine Stab.steps_cons ?_ ?_ ?_
        · exact Stab.owes_load rfl (fun v W hb hv => by subst hv; exact ld_stk (blk XD.out hb)) rfl
        · exact trivial
        with_reducible refine Stab.steps_cons ?_ ?_ ?_
        · (refine Stab.owes_call Try.func12 (by kernel_rfl) (by kernel_rfl) rfl (fun vs W hb hall => ?_) rfl; obtain ⟨_, _, rfl, rfl, rfl⟩ := hall; refine (theirs_any (SCp.out.keep hb) HA2.out).mono ?_; rintro e w2 ⟨⟨P', n', c', Q', m', d', rfl, hv⟩, hb2⟩; exact ⟨_, rfl, hb2, hv⟩)
        · exact fun v w w' h hb => StIs.keep h hb
        with_reducible refine Stab.steps_cons ?_ ?_ ?_
        · exact Stab.owes_load rfl (fun v W hb hv => by subst hv; exact ld_stD (blk XE.out hb)) rfl
        · exact trivial
        with_reducible refine Stab.steps_cons ?_ ?_ ?_
        · (refine Stab.owes_call Try.func11 (by kernel_rfl) (by kernel_rfl) rfl (fun vs W hb hall => ?_) rfl; obtain ⟨v1, _, rfl, h1, v2, _, rfl, h2, rfl⟩ := hall; have h1 : StIs elD W v1 A2 := h1; have h2 := (show v2 = _ from h2); subst h2; refine (same_yes h1 (SDd.out.keep hb) (by have := HA2.out; omega)).mono ?_; rintro e w2 ⟨rfl, hb2⟩; exact ⟨_, rfl, hb2, rfl⟩)
        · exact trivial
        with_reducible refine Stab.steps_cons ?_ ?_ ?_
        · exact Stab.owes_not rfl rfl (fun W => Stab.run_not true W) rfl
        · exact trivial
        with_reducible refine Stab.steps_cons ?_ ?_ ?_
        · exact Stab.owes_pick rfl rfl rfl rfl
        · exact trivial
        with_reducible refine Stab.steps_cons ?_ ?_ ?_
        · exact Stab.owes_move rfl rfl rfl
        · exact trivial
        with_reducible refine Stab.steps_cons ?_ ?_ ?_
        · exact Stab.owes_move rfl rfl rfl
        · exact trivial
        with_reducible refine Stab.steps_cons ?_ ?_ ?_
        · exact Stab.owes_move rfl rfl rfl
        · exact trivial
        with_reducible refine Stab.steps_cons ?_ ?_ ?_
        · exact Stab.owes_bin rfl rfl rfl (fun W => run_neB _ _ t2 t2 false (by simp) W) rfl
        · exact trivial
        with_reducible refine Stab.steps_cons ?_ ?_ ?_
        · exact Stab.owes_pick rfl rfl rfl rfl
        · exact trivial
        with_reducible refine Stab.steps_cons ?_ ?_ ?_
        · exact Stab.owes_move rfl rfl rfl
        · exact trivial
        with_reducible refine Stab.steps_cons ?_ ?_ ?_
        · exact Stab.owes_move rfl rfl rfl
        · exact trivial
        with_reducible refine Stab.steps_cons ?_ ?_ ?_
        · exact Stab.owes_move rfl rfl rfl
        · exact trivial
        with_reducible refine Stab.steps_cons ?_ ?_ ?_
        · exact Stab.owes_bin rfl rfl rfl (fun W => Stab.run_neE _ _ e2 e2 false (by simp) W) rfl
        · exact trivial
        with_reducible refine Stab.steps_cons ?_ ?_ ?_
        · exact Stab.owes_pick rfl rfl rfl rfl
        · exact trivial
        exact Stab.steps_nil
      · intro y1 y2 w8 hb _
        have SS := Lib.hid (SS.out.keep hb)
        have RX := Lib.hid (RX.out.keep hb)
        have XB := Lib.hid (blk XB.out hb)
        have SOp := Lib.hid (SOp.out.keep hb)
        have XO := Lib.hid (blk XO.out hb)
        have XA := Lib.hid (blk XA.out hb)
        have XC := Lib.hid (blk XC.out hb)
        have XD := Lib.hid (blk XD.out hb)
        have XE := Lib.hid (blk XE.out hb)
        have HW := Lib.hid (HW.out.trans (hb.mono HW.out.size))
        clear hb
        simp only [Act.put, List.setIfInBounds_toArray, List.set_cons_succ, List.set_cons_zero]
        obtain ⟨l00, l01⟩ := cells2 XO.out
        have l0l := lt_of_heap XO.out
        go_wp2_with fail
        clear l00 l01 l0l
        clear HR1 HR2 HA1 HA2
        obtain ⟨⟨A3, e3⟩, hr3⟩ : ∃ r, wantS s xs = r := ⟨_, rfl⟩
        have HR3 := Lib.hid hr3
        clear hr3
        have HK := Lib.hid (Want_st SOp.out RX.out HLV.out HLC.out HLX.out)
        rw [HR3.out] at HK
        refine (HK.out).mono ?_
        rintro e w9 hen
        obtain ⟨P8, n8, c8, Q8, m8, d8, rfl, hst, hb⟩ := hen.of
        clear hen HK
        have SS := Lib.hid (SS.out.keep hb)
        have RX := Lib.hid (RX.out.keep hb)
        have XB := Lib.hid (blk XB.out hb)
        have SOp := Lib.hid (SOp.out.keep hb)
        have XO := Lib.hid (blk XO.out hb)
        have XA := Lib.hid (blk XA.out hb)
        have XC := Lib.hid (blk XC.out hb)
        have XD := Lib.hid (blk XD.out hb)
        have XE := Lib.hid (blk XE.out hb)
        have HW := Lib.hid (HW.out.trans (hb.mono HW.out.size))
        have SAp := Lib.hid hst
        clear hb hst
        obtain ⟨t0, t1⟩ := cells2 XA.out
        have tp0 := (cells_at XA.out 0).2
        have tp1 := (cells_at XA.out 1).2
        have ttl := lt_of_heap XA.out
        obtain ⟨l00, l01⟩ := cells2 XB.out
        have l0l := lt_of_heap XB.out
        have ne_xa_b : xa ≠ b := by have := Lo.out; have := Lxa.out; omega
        have ne_b_xa : b ≠ xa := Ne.symm ne_xa_b
        go_wp2_with fail
        clear t0 t1 tp0 tp1 ttl
        clear l00 l01 l0l
        clear ne_xa_b ne_b_xa
        have ne_xa_b : xa ≠ b := by have := Lo.out; have := Lxa.out; omega
        have ne_b_xa : b ≠ xa := Ne.symm ne_xa_b
        have ne_xa_o : xa ≠ o := by have := Lxa.out; omega
        have ne_o_xa : o ≠ xa := Ne.symm ne_xa_o
        have ne_xa_xc : xa ≠ xc := by have := Lxc.out; omega
        have ne_xc_xa : xc ≠ xa := Ne.symm ne_xa_xc
        have ne_xa_xd : xa ≠ xd := by have := Lxc.out; have := Lxd.out; omega
        have ne_xd_xa : xd ≠ xa := Ne.symm ne_xa_xd
        have ne_xa_xe : xa ≠ xe := by have := Lxc.out; have := Lxd.out; have := Lxe.out; omega
        have ne_xe_xa : xe ≠ xa := Ne.symm ne_xa_xe
        have SS := Lib.hid (StIs.setD SS.out XA.out : StIs _ ((w9.setCell ⟨xa, 0, none⟩ (.slice P8 n8 c8)).setCell ⟨xa, 1, none⟩ (.slice Q8 m8 d8)) _ _)
        have RX := Lib.hid (rowB_set2 RX.out XA.out : Row elB ((w9.setCell ⟨xa, 0, none⟩ (.slice P8 n8 c8)).setCell ⟨xa, 1, none⟩ (.slice Q8 m8 d8)) _ _)
        have XB := Lib.hid (chg_two (a := .slice P8 n8 c8) (b := .slice Q8 m8 d8) XB.out XA.out ne_b_xa)
        have SOp := Lib.hid (StIs.setP SOp.out XA.out : StIs _ ((w9.setCell ⟨xa, 0, none⟩ (.slice P8 n8 c8)).setCell ⟨xa, 1, none⟩ (.slice Q8 m8 d8)) _ _)
        have XO := Lib.hid (chg_two (a := .slice P8 n8 c8) (b := .slice Q8 m8 d8) XO.out XA.out ne_o_xa)
        have XC := Lib.hid (chg_two (a := .slice P8 n8 c8) (b := .slice Q8 m8 d8) XC.out XA.out ne_xc_xa)
        have XD := Lib.hid (chg_two (a := .slice P8 n8 c8) (b := .slice Q8 m8 d8) XD.out XA.out ne_xd_xa)
        have XE := Lib.hid (chg_two (a := .slice P8 n8 c8) (b := .slice Q8 m8 d8) XE.out XA.out ne_xe_xa)
        have SAp := Lib.hid (StIs.setP SAp.out XA.out : StIs _ ((w9.setCell ⟨xa, 0, none⟩ (.slice P8 n8 c8)).setCell ⟨xa, 1, none⟩ (.slice Q8 m8 d8)) _ _)
        clear ne_xa_b ne_b_xa ne_xa_o ne_o_xa ne_xa_xc ne_xc_xa ne_xa_xd ne_xd_xa ne_xa_xe ne_xe_xa
        have HW := Lib.hid ((HW.out.setCell (p := ⟨xa, 0, none⟩) LWxa.out (.slice P8 n8 c8)).setCell (p := ⟨xa, 1, none⟩) LWxa.out (.slice Q8 m8 d8))
        have XA := Lib.hid (store2 XA.out (.slice P8 n8 c8) (.slice Q8 m8 d8))
        generalize (w9.setCell ⟨xa, 0, none⟩ (.slice P8 n8 c8)).setCell ⟨xa, 1, none⟩ (.slice Q8 m8 d8) = v9 at *
        have HK := Lib.hid (rwant_any SS.out RX.out HLV.out HLC.out HLX.out)
        rw [HR3.out] at HK
        refine (HK.out).mono ?_
        rintro e w10 ⟨⟨P9, n9, c9, Q9, m9, d9, rfl, hst⟩, hb⟩
        clear HK
        have SS := Lib.hid (SS.out.keep hb)
        have RX := Lib.hid (RX.out.keep hb)
        have XB := Lib.hid (blk XB.out hb)
        have SOp := Lib.hid (SOp.out.keep hb)
        have XO := Lib.hid (blk XO.out hb)
        have XA := Lib.hid (blk XA.out hb)
        have XC := Lib.hid (blk XC.out hb)
        have XD := Lib.hid (blk XD.out hb)
        have XE := Lib.hid (blk XE.out hb)
        have SAp := Lib.hid (SAp.out.keep hb)
        have HW := Lib.hid (HW.out.trans (hb.mono HW.out.size))
        have SBd := Lib.hid hst
        clear hb hst
        obtain ⟨t0, t1⟩ := cells2 XC.out
        have tp0 := (cells_at XC.out 0).2
        have tp1 := (cells_at XC.out 1).2
        have ttl := lt_of_heap XC.out
        obtain ⟨l00, l01⟩ := cells2 XO.out
        have l0l := lt_of_heap XO.out
        have ne_xc_o : xc ≠ o := by have := Lxa.out; have := Lxc.out; omega
        have ne_o_xc : o ≠ xc := Ne.symm ne_xc_o
        go_wp2_with fail
        clear t0 t1 tp0 tp1 ttl
        clear l00 l01 l0l
        clear ne_xc_o ne_o_xc
        have ne_xc_b : xc ≠ b := by have := Lo.out; have := Lxa.out; have := Lxc.out; omega
        have ne_b_xc : b ≠ xc := Ne.symm ne_xc_b
        have ne_xc_o : xc ≠ o := by have := Lxa.out; have := Lxc.out; omega
        have ne_o_xc : o ≠ xc := Ne.symm ne_xc_o
        have ne_xc_xa : xc ≠ xa := by have := Lxc.out; omega
        have ne_xa_xc : xa ≠ xc := Ne.symm ne_xc_xa
        have ne_xc_xd : xc ≠ xd := by have := Lxd.out; omega
        have ne_xd_xc : xd ≠ xc := Ne.symm ne_xc_xd
        have ne_xc_xe : xc ≠ xe := by have := Lxd.out; have := Lxe.out; omega
        have ne_xe_xc : xe ≠ xc := Ne.symm ne_xc_xe
        have SS := Lib.hid (StIs.setD SS.out XC.out : StIs _ ((w10.setCell ⟨xc, 0, none⟩ (.slice P9 n9 c9)).setCell ⟨xc, 1, none⟩ (.slice Q9 m9 d9)) _ _)
        have RX := Lib.hid (rowB_set2 RX.out XC.out : Row elB ((w10.setCell ⟨xc, 0, none⟩ (.slice P9 n9 c9)).setCell ⟨xc, 1, none⟩ (.slice Q9 m9 d9)) _ _)
        have XB := Lib.hid (chg_two (a := .slice P9 n9 c9) (b := .slice Q9 m9 d9) XB.out XC.out ne_b_xc)
        have SOp := Lib.hid (StIs.setP SOp.out XC.out : StIs _ ((w10.setCell ⟨xc, 0, none⟩ (.slice P9 n9 c9)).setCell ⟨xc, 1, none⟩ (.slice Q9 m9 d9)) _ _)
        have XO := Lib.hid (chg_two (a := .slice P9 n9 c9) (b := .slice Q9 m9 d9) XO.out XC.out ne_o_xc)
        have XA := Lib.hid (chg_two (a := .slice P9 n9 c9) (b := .slice Q9 m9 d9) XA.out XC.out ne_xa_xc)
        have XD := Lib.hid (chg_two (a := .slice P9 n9 c9) (b := .slice Q9 m9 d9) XD.out XC.out ne_xd_xc)
        have XE := Lib.hid (chg_two (a := .slice P9 n9 c9) (b := .slice Q9 m9 d9) XE.out XC.out ne_xe_xc)
        have SAp := Lib.hid (StIs.setP SAp.out XC.out : StIs _ ((w10.setCell ⟨xc, 0, none⟩ (.slice P9 n9 c9)).setCell ⟨xc, 1, none⟩ (.slice Q9 m9 d9)) _ _)
        have SBd := Lib.hid (StIs.setD SBd.out XC.out : StIs _ ((w10.setCell ⟨xc, 0, none⟩ (.slice P9 n9 c9)).setCell ⟨xc, 1, none⟩ (.slice Q9 m9 d9)) _ _)
        clear ne_xc_b ne_b_xc ne_xc_o ne_o_xc ne_xc_xa ne_xa_xc ne_xc_xd ne_xd_xc ne_xc_xe ne_xe_xc
        have HW := Lib.hid ((HW.out.setCell (p := ⟨xc, 0, none⟩) LWxc.out (.slice P9 n9 c9)).setCell (p := ⟨xc, 1, none⟩) LWxc.out (.slice Q9 m9 d9))
        have XC := Lib.hid (store2 XC.out (.slice P9 n9 c9) (.slice Q9 m9 d9))
        generalize (w10.setCell ⟨xc, 0, none⟩ (.slice P9 n9 c9)).setCell ⟨xc, 1, none⟩ (.slice Q9 m9 d9) = v10 at *
        obtain ⟨⟨A4, e4⟩, hr4⟩ : ∃ r, openS s op xs = r := ⟨_, rfl⟩
        have HR4 := Lib.hid hr4
        clear hr4
        have HK := Lib.hid (Open_st SOp.out RX.out HOP.out HLV.out HLC.out HLX.out)
        rw [HR4.out] at HK
        refine (HK.out).mono ?_
        rintro e w11 hen
        obtain ⟨P10, n10, c10, Q10, m10, d10, rfl, hst, hb⟩ := hen.of
        clear hen HK
        have SS := Lib.hid (SS.out.keep hb)
        have RX := Lib.hid (RX.out.keep hb)
        have XB := Lib.hid (blk XB.out hb)
        have SOp := Lib.hid (SOp.out.keep hb)
        have XO := Lib.hid (blk XO.out hb)
        have XA := Lib.hid (blk XA.out hb)
        have XC := Lib.hid (blk XC.out hb)
        have XD := Lib.hid (blk XD.out hb)
        have XE := Lib.hid (blk XE.out hb)
        have SAp := Lib.hid (SAp.out.keep hb)
        have SBd := Lib.hid (SBd.out.keep hb)
        have HW := Lib.hid (HW.out.trans (hb.mono HW.out.size))
        have SCp := Lib.hid hst
        clear hb hst
        obtain ⟨t0, t1⟩ := cells2 XD.out
        have tp0 := (cells_at XD.out 0).2
        have tp1 := (cells_at XD.out 1).2
        have ttl := lt_of_heap XD.out
        obtain ⟨l00, l01⟩ := cells2 XB.out
        have l0l := lt_of_heap XB.out
        have ne_xd_b : xd ≠ b := by have := Lo.out; have := Lxa.out; have := Lxc.out; have := Lxd.out; omega
        have ne_b_xd : b ≠ xd := Ne.symm ne_xd_b
        go_wp2_with fail
        clear t0 t1 tp0 tp1 ttl
        clear l00 l01 l0l
        clear ne_xd_b ne_b_xd
        have ne_xd_b : xd ≠ b := by have := Lo.out; have := Lxa.out; have := Lxc.out; have := Lxd.out; omega
        have ne_b_xd : b ≠ xd := Ne.symm ne_xd_b
        have ne_xd_o : xd ≠ o := by have := Lxa.out; have := Lxc.out; have := Lxd.out; omega
        have ne_o_xd : o ≠ xd := Ne.symm ne_xd_o
        have ne_xd_xa : xd ≠ xa := by have := Lxc.out; have := Lxd.out; omega
        have ne_xa_xd : xa ≠ xd := Ne.symm ne_xd_xa
        have ne_xd_xc : xd ≠ xc := by have := Lxd.out; omega
        have ne_xc_xd : xc ≠ xd := Ne.symm ne_xd_xc
        have ne_xd_xe : xd ≠ xe := by have := Lxe.out; omega
        have ne_xe_xd : xe ≠ xd := Ne.symm ne_xd_xe
        have SS := Lib.hid (StIs.setD SS.out XD.out : StIs _ ((w11.setCell ⟨xd, 0, none⟩ (.slice P10 n10 c10)).setCell ⟨xd, 1, none⟩ (.slice Q10 m10 d10)) _ _)
        have RX := Lib.hid (rowB_set2 RX.out XD.out : Row elB ((w11.setCell ⟨xd, 0, none⟩ (.slice P10 n10 c10)).setCell ⟨xd, 1, none⟩ (.slice Q10 m10 d10)) _ _)
        have XB := Lib.hid (chg_two (a := .slice P10 n10 c10) (b := .slice Q10 m10 d10) XB.out XD.out ne_b_xd)
        have SOp := Lib.hid (StIs.setP SOp.out XD.out : StIs _ ((w11.setCell ⟨xd, 0, none⟩ (.slice P10 n10 c10)).setCell ⟨xd, 1, none⟩ (.slice Q10 m10 d10)) _ _)
        have XO := Lib.hid (chg_two (a := .slice P10 n10 c10) (b := .slice Q10 m10 d10) XO.out XD.out ne_o_xd)
        have XA := Lib.hid (chg_two (a := .slice P10 n10 c10) (b := .slice Q10 m10 d10) XA.out XD.out ne_xa_xd)
        have XC := Lib.hid (chg_two (a := .slice P10 n10 c10) (b := .slice Q10 m10 d10) XC.out XD.out ne_xc_xd)
        have XE := Lib.hid (chg_two (a := .slice P10 n10 c10) (b := .slice Q10 m10 d10) XE.out XD.out ne_xe_xd)
        have SAp := Lib.hid (StIs.setP SAp.out XD.out : StIs _ ((w11.setCell ⟨xd, 0, none⟩ (.slice P10 n10 c10)).setCell ⟨xd, 1, none⟩ (.slice Q10 m10 d10)) _ _)
        have SBd := Lib.hid (StIs.setD SBd.out XD.out : StIs _ ((w11.setCell ⟨xd, 0, none⟩ (.slice P10 n10 c10)).setCell ⟨xd, 1, none⟩ (.slice Q10 m10 d10)) _ _)
        have SCp := Lib.hid (StIs.setP SCp.out XD.out : StIs _ ((w11.setCell ⟨xd, 0, none⟩ (.slice P10 n10 c10)).setCell ⟨xd, 1, none⟩ (.slice Q10 m10 d10)) _ _)
        clear ne_xd_b ne_b_xd ne_xd_o ne_o_xd ne_xd_xa ne_xa_xd ne_xd_xc ne_xc_xd ne_xd_xe ne_xe_xd
        have HW := Lib.hid ((HW.out.setCell (p := ⟨xd, 0, none⟩) LWxd.out (.slice P10 n10 c10)).setCell (p := ⟨xd, 1, none⟩) LWxd.out (.slice Q10 m10 d10))
        have XD := Lib.hid (store2 XD.out (.slice P10 n10 c10) (.slice Q10 m10 d10))
        generalize (w11.setCell ⟨xd, 0, none⟩ (.slice P10 n10 c10)).setCell ⟨xd, 1, none⟩ (.slice Q10 m10 d10) = v11 at *
        have HK := Lib.hid (ropen_any SS.out RX.out HOP.out HLV.out HLC.out HLX.out)
        rw [HR4.out] at HK
        refine (HK.out).mono ?_
        rintro e w12 ⟨⟨P11, n11, c11, Q11, m11, d11, rfl, hst⟩, hb⟩
        clear HK
        have SS := Lib.hid (SS.out.keep hb)
        have RX := Lib.hid (RX.out.keep hb)
        have XB := Lib.hid (blk XB.out hb)
        have SOp := Lib.hid (SOp.out.keep hb)
        have XO := Lib.hid (blk XO.out hb)
        have XA := Lib.hid (blk XA.out hb)
        have XC := Lib.hid (blk XC.out hb)
        have XD := Lib.hid (blk XD.out hb)
        have XE := Lib.hid (blk XE.out hb)
        have SAp := Lib.hid (SAp.out.keep hb)
        have SBd := Lib.hid (SBd.out.keep hb)
        have SCp := Lib.hid (SCp.out.keep hb)
        have HW := Lib.hid (HW.out.trans (hb.mono HW.out.size))
        have SDd := Lib.hid hst
        clear hb hst
        obtain ⟨t0, t1⟩ := cells2 XE.out
        have tp0 := (cells_at XE.out 0).2
        have tp1 := (cells_at XE.out 1).2
        have ttl := lt_of_heap XE.out
        go_wp2_with fail
        clear t0 t1 tp0 tp1 ttl
        have ne_xe_b : xe ≠ b := by have := Lo.out; have := Lxa.out; have := Lxc.out; have := Lxd.out; have := Lxe.out; omega
        have ne_b_xe : b ≠ xe := Ne.symm ne_xe_b
        have ne_xe_o : xe ≠ o := by have := Lxa.out; have := Lxc.out; have := Lxd.out; have := Lxe.out; omega
        have ne_o_xe : o ≠ xe := Ne.symm ne_xe_o
        have ne_xe_xa : xe ≠ xa := by have := Lxc.out; have := Lxd.out; have := Lxe.out; omega
        have ne_xa_xe : xa ≠ xe := Ne.symm ne_xe_xa
        have ne_xe_xc : xe ≠ xc := by have := Lxd.out; have := Lxe.out; omega
        have ne_xc_xe : xc ≠ xe := Ne.symm ne_xe_xc
        have ne_xe_xd : xe ≠ xd := by have := Lxe.out; omega
        have ne_xd_xe : xd ≠ xe := Ne.symm ne_xe_xd
        have SS := Lib.hid (StIs.setD SS.out XE.out : StIs _ ((w12.setCell ⟨xe, 0, none⟩ (.slice P11 n11 c11)).setCell ⟨xe, 1, none⟩ (.slice Q11 m11 d11)) _ _)
        have RX := Lib.hid (rowB_set2 RX.out XE.out : Row elB ((w12.setCell ⟨xe, 0, none⟩ (.slice P11 n11 c11)).setCell ⟨xe, 1, none⟩ (.slice Q11 m11 d11)) _ _)
        have XB := Lib.hid (chg_two (a := .slice P11 n11 c11) (b := .slice Q11 m11 d11) XB.out XE.out ne_b_xe)
        have SOp := Lib.hid (StIs.setP SOp.out XE.out : StIs _ ((w12.setCell ⟨xe, 0, none⟩ (.slice P11 n11 c11)).setCell ⟨xe, 1, none⟩ (.slice Q11 m11 d11)) _ _)
        have XO := Lib.hid (chg_two (a := .slice P11 n11 c11) (b := .slice Q11 m11 d11) XO.out XE.out ne_o_xe)
        have XA := Lib.hid (chg_two (a := .slice P11 n11 c11) (b := .slice Q11 m11 d11) XA.out XE.out ne_xa_xe)
        have XC := Lib.hid (chg_two (a := .slice P11 n11 c11) (b := .slice Q11 m11 d11) XC.out XE.out ne_xc_xe)
        have XD := Lib.hid (chg_two (a := .slice P11 n11 c11) (b := .slice Q11 m11 d11) XD.out XE.out ne_xd_xe)
        have SAp := Lib.hid (StIs.setP SAp.out XE.out : StIs _ ((w12.setCell ⟨xe, 0, none⟩ (.slice P11 n11 c11)).setCell ⟨xe, 1, none⟩ (.slice Q11 m11 d11)) _ _)
        have SBd := Lib.hid (StIs.setD SBd.out XE.out : StIs _ ((w12.setCell ⟨xe, 0, none⟩ (.slice P11 n11 c11)).setCell ⟨xe, 1, none⟩ (.slice Q11 m11 d11)) _ _)
        have SCp := Lib.hid (StIs.setP SCp.out XE.out : StIs _ ((w12.setCell ⟨xe, 0, none⟩ (.slice P11 n11 c11)).setCell ⟨xe, 1, none⟩ (.slice Q11 m11 d11)) _ _)
        have SDd := Lib.hid (StIs.setD SDd.out XE.out : StIs _ ((w12.setCell ⟨xe, 0, none⟩ (.slice P11 n11 c11)).setCell ⟨xe, 1, none⟩ (.slice Q11 m11 d11)) _ _)
        clear ne_xe_b ne_b_xe ne_xe_o ne_o_xe ne_xe_xa ne_xa_xe ne_xe_xc ne_xc_xe ne_xe_xd ne_xd_xe
        have HW := Lib.hid ((HW.out.setCell (p := ⟨xe, 0, none⟩) LWxe.out (.slice P11 n11 c11)).setCell (p := ⟨xe, 1, none⟩) LWxe.out (.slice Q11 m11 d11))
        have XE := Lib.hid (store2 XE.out (.slice P11 n11 c11) (.slice Q11 m11 d11))
        generalize (w12.setCell ⟨xe, 0, none⟩ (.slice P11 n11 c11)).setCell ⟨xe, 1, none⟩ (.slice Q11 m11 d11) = v12 at *
        have HA3 : Hid (A3.cs.length ≤ 400000) := Lib.hid (by have := HLE.out.2.2.1; rw [HR3.out] at this; exact this)
        have HA4 : Hid (A4.cs.length ≤ 400000) := Lib.hid (by have := HLE.out.2.2.2.1; rw [HR4.out] at this; exact this)
        refine Stab.region 226 [.is (.agg #[.slice P8 n8 c8, .slice Q8 m8 d8]), .fits (fun v W => StIs elD W v A3), .is (.agg #[.slice P9 n9 c9, .slice Q9 m9 d9]), .is (.bool true), .is (.bool false), .is (.bool false), .is (.int .i64 e3), .is (.int .i64 e3), .is (.bool false), .is (.bool false), .is (.bool false), .is (.agg #[.slice P10 n10 c10, .slice Q10 m10 d10]), .fits (fun v W => StIs elD W v A4), .is (.agg #[.slice P11 n11 c11, .slice Q11 m11 d11]), .is (.bool true), .is (.bool false), .is (.bool false), .is (.bool false), .is (.int .i64 e4), .is (.int .i64 e4), .is (.bool false), .is (.bool false)] (by kernel_rfl) (by kernel_rfl) rfl rfl ?_ ?_
        · skip
          with_reducible refine Stab.steps_cons ?_ ?_ ?_
          · exact Stab.owes_load rfl (fun v W hb hv => by subst hv; exact ld_stk (blk XA.out hb)) rfl
          · exact trivial
          with_reducible refine Stab.steps_cons ?_ ?_ ?_
          · (refine Stab.owes_call Try.func12 (by kernel_rfl) (by kernel_rfl) rfl (fun vs W hb hall => ?_) rfl; obtain ⟨_, _, rfl, rfl, rfl⟩ := hall; refine (theirs_any (SAp.out.keep hb) HA3.out).mono ?_; rintro e w2 ⟨⟨P', n', c', Q', m', d', rfl, hv⟩, hb2⟩; exact ⟨_, rfl, hb2, hv⟩)
          · exact fun v w w' h hb => StIs.keep h hb
          with_reducible refine Stab.steps_cons ?_ ?_ ?_
          · exact Stab.owes_load rfl (fun v W hb hv => by subst hv; exact ld_stD (blk XC.out hb)) rfl
          · exact trivial
          with_reducible refine Stab.steps_cons ?_ ?_ ?_
          · (refine Stab.owes_call Try.func11 (by kernel_rfl) (by kernel_rfl) rfl (fun vs W hb hall => ?_) rfl; obtain ⟨v1, _, rfl, h1, v2, _, rfl, h2, rfl⟩ := hall; have h1 : StIs elD W v1 A3 := h1; have h2 := (show v2 = _ from h2); subst h2; refine (same_yes h1 (SBd.out.keep hb) (by have := HA3.out; omega)).mono ?_; rintro e w2 ⟨rfl, hb2⟩; exact ⟨_, rfl, hb2, rfl⟩)
          · exact trivial
          with_reducible refine Stab.steps_cons ?_ ?_ ?_
          · exact Stab.owes_not rfl rfl (fun W => Stab.run_not true W) rfl
          · exact trivial
          with_reducible refine Stab.steps_cons ?_ ?_ ?_
          · exact Stab.owes_move rfl rfl rfl
          · exact trivial
          with_reducible refine Stab.steps_cons ?_ ?_ ?_
          · exact Stab.owes_move rfl rfl rfl
          · exact trivial
          with_reducible refine Stab.steps_cons ?_ ?_ ?_
          · exact Stab.owes_move rfl rfl rfl
          · exact trivial
          with_reducible refine Stab.steps_cons ?_ ?_ ?_
          · exact Stab.owes_bin rfl rfl rfl (fun W => Stab.run_neE _ _ e3 e3 false (by simp) W) rfl
          · exact trivial
          with_reducible refine Stab.steps_cons ?_ ?_ ?_
          · exact Stab.owes_pick rfl rfl rfl rfl
          · exact trivial
          with_reducible refine Stab.steps_cons ?_ ?_ ?_
          · exact Stab.owes_move rfl rfl rfl
          · exact trivial
          with_reducible refine Stab.steps_cons ?_ ?_ ?_
          · exact Stab.owes_load rfl (fun v W hb hv => by subst hv; exact ld_stk (blk XD.out hb)) rfl
          · exact trivial
          with_reducible refine Stab.steps_cons ?_ ?_ ?_
          · (refine Stab.owes_call Try.func12 (by kernel_rfl) (by kernel_rfl) rfl (fun vs W hb hall => ?_) rfl; obtain ⟨_, _, rfl, rfl, rfl⟩ := hall; refine (theirs_any (SCp.out.keep hb) HA4.out).mono ?_; rintro e w2 ⟨⟨P', n', c', Q', m', d', rfl, hv⟩, hb2⟩; exact ⟨_, rfl, hb2, hv⟩)
          · exact fun v w w' h hb => StIs.keep h hb
          with_reducible refine Stab.steps_cons ?_ ?_ ?_
          · exact Stab.owes_load rfl (fun v W hb hv => by subst hv; exact ld_stD (blk XE.out hb)) rfl
          · exact trivial
          with_reducible refine Stab.steps_cons ?_ ?_ ?_
          · (refine Stab.owes_call Try.func11 (by kernel_rfl) (by kernel_rfl) rfl (fun vs W hb hall => ?_) rfl; obtain ⟨v1, _, rfl, h1, v2, _, rfl, h2, rfl⟩ := hall; have h1 : StIs elD W v1 A4 := h1; have h2 := (show v2 = _ from h2); subst h2; refine (same_yes h1 (SDd.out.keep hb) (by have := HA4.out; omega)).mono ?_; rintro e w2 ⟨rfl, hb2⟩; exact ⟨_, rfl, hb2, rfl⟩)
          · exact trivial
          with_reducible refine Stab.steps_cons ?_ ?_ ?_
          · exact Stab.owes_not rfl rfl (fun W => Stab.run_not true W) rfl
          · exact trivial
          with_reducible refine Stab.steps_cons ?_ ?_ ?_
          · exact Stab.owes_pick rfl rfl rfl rfl
          · exact trivial
          with_reducible refine Stab.steps_cons ?_ ?_ ?_
          · exact Stab.owes_move rfl rfl rfl
          · exact trivial
          with_reducible refine Stab.steps_cons ?_ ?_ ?_
          · exact Stab.owes_move rfl rfl rfl
          · exact trivial
          with_reducible refine Stab.steps_cons ?_ ?_ ?_
          · exact Stab.owes_move rfl rfl rfl
          · exact trivial
          with_reducible refine Stab.steps_cons ?_ ?_ ?_
          · exact Stab.owes_bin rfl rfl rfl (fun W => Stab.run_neE _ _ e4 e4 false (by simp) W) rfl
          · exact trivial
          with_reducible refine Stab.steps_cons ?_ ?_ ?_
          · exact Stab.owes_pick rfl rfl rfl rfl
          · exact trivial
          exact Stab.steps_nil
        · intro y3 y4 w13 hb _
          have SS := Lib.hid (SS.out.keep hb)
          have RX := Lib.hid (RX.out.keep hb)
          have XB := Lib.hid (blk XB.out hb)
          have SOp := Lib.hid (SOp.out.keep hb)
          have XO := Lib.hid (blk XO.out hb)
          have XA := Lib.hid (blk XA.out hb)
          have XC := Lib.hid (blk XC.out hb)
          have XD := Lib.hid (blk XD.out hb)
          have XE := Lib.hid (blk XE.out hb)
          have HW := Lib.hid (HW.out.trans (hb.mono HW.out.size))
          clear hb
          simp only [Act.put, List.setIfInBounds_toArray, List.set_cons_succ, List.set_cons_zero]
          obtain ⟨l00, l01⟩ := cells2 XO.out
          have l0l := lt_of_heap XO.out
          go_wp2_with fail
          clear l00 l01 l0l
          clear HR3 HR4 HA3 HA4
          obtain ⟨⟨A5, C5, e5⟩, hr5⟩ : ∃ r, closeS s = r := ⟨_, rfl⟩
          have HR5 := Lib.hid hr5
          clear hr5
          have HK := Lib.hid (Close_st SOp.out HLV.out HLC.out)
          rw [HR5.out] at HK
          refine (HK.out).mono ?_
          rintro e w14 hen
          obtain ⟨P12, n12, c12, Q12, m12, d12, R12, k12, f12, rfl, hst, hrow, hb⟩ := hen.of
          clear hen HK
          have HLt := Lib.hid (Nat.lt_of_lt_of_le (lt_of_heap XE.out) hb.size)
          have SS := Lib.hid (SS.out.keep hb)
          have RX := Lib.hid (RX.out.keep hb)
          have XB := Lib.hid (blk XB.out hb)
          have SOp := Lib.hid (SOp.out.keep hb)
          have XO := Lib.hid (blk XO.out hb)
          have XA := Lib.hid (blk XA.out hb)
          have XC := Lib.hid (blk XC.out hb)
          have XD := Lib.hid (blk XD.out hb)
          have XE := Lib.hid (blk XE.out hb)
          have HW := Lib.hid (HW.out.trans (hb.mono HW.out.size))
          have SAp := Lib.hid hst
          have R1 := Lib.hid hrow
          clear hb hst hrow
          obtain ⟨t0, t1⟩ := cells2 XA.out
          have tp0 := (cells_at XA.out 0).2
          have tp1 := (cells_at XA.out 1).2
          have ttl := lt_of_heap XA.out
          obtain ⟨l00, l01⟩ := cells2 XB.out
          have l0l := lt_of_heap XB.out
          have ne_xa_b : xa ≠ b := by have := Lo.out; have := Lxa.out; omega
          have ne_b_xa : b ≠ xa := Ne.symm ne_xa_b
          go_wp2_with fail
          clear t0 t1 tp0 tp1 ttl
          clear l00 l01 l0l
          clear ne_xa_b ne_b_xa
          have ne_xa_b : xa ≠ b := by have := Lo.out; have := Lxa.out; omega
          have ne_b_xa : b ≠ xa := Ne.symm ne_xa_b
          have ne_xa_o : xa ≠ o := by have := Lxa.out; omega
          have ne_o_xa : o ≠ xa := Ne.symm ne_xa_o
          have ne_xa_xc : xa ≠ xc := by have := Lxc.out; omega
          have ne_xc_xa : xc ≠ xa := Ne.symm ne_xa_xc
          have ne_xa_xd : xa ≠ xd := by have := Lxc.out; have := Lxd.out; omega
          have ne_xd_xa : xd ≠ xa := Ne.symm ne_xa_xd
          have ne_xa_xe : xa ≠ xe := by have := Lxc.out; have := Lxd.out; have := Lxe.out; omega
          have ne_xe_xa : xe ≠ xa := Ne.symm ne_xa_xe
          have SS := Lib.hid (StIs.setD SS.out XA.out : StIs _ ((w14.setCell ⟨xa, 0, none⟩ (.slice P12 n12 c12)).setCell ⟨xa, 1, none⟩ (.slice Q12 m12 d12)) _ _)
          have RX := Lib.hid (rowB_set2 RX.out XA.out : Row elB ((w14.setCell ⟨xa, 0, none⟩ (.slice P12 n12 c12)).setCell ⟨xa, 1, none⟩ (.slice Q12 m12 d12)) _ _)
          have XB := Lib.hid (chg_two (a := .slice P12 n12 c12) (b := .slice Q12 m12 d12) XB.out XA.out ne_b_xa)
          have SOp := Lib.hid (StIs.setP SOp.out XA.out : StIs _ ((w14.setCell ⟨xa, 0, none⟩ (.slice P12 n12 c12)).setCell ⟨xa, 1, none⟩ (.slice Q12 m12 d12)) _ _)
          have XO := Lib.hid (chg_two (a := .slice P12 n12 c12) (b := .slice Q12 m12 d12) XO.out XA.out ne_o_xa)
          have XC := Lib.hid (chg_two (a := .slice P12 n12 c12) (b := .slice Q12 m12 d12) XC.out XA.out ne_xc_xa)
          have XD := Lib.hid (chg_two (a := .slice P12 n12 c12) (b := .slice Q12 m12 d12) XD.out XA.out ne_xd_xa)
          have XE := Lib.hid (chg_two (a := .slice P12 n12 c12) (b := .slice Q12 m12 d12) XE.out XA.out ne_xe_xa)
          have SAp := Lib.hid (StIs.setP SAp.out XA.out : StIs _ ((w14.setCell ⟨xa, 0, none⟩ (.slice P12 n12 c12)).setCell ⟨xa, 1, none⟩ (.slice Q12 m12 d12)) _ _)
          have R1 := Lib.hid (rowB_set2 R1.out XA.out : Row elB ((w14.setCell ⟨xa, 0, none⟩ (.slice P12 n12 c12)).setCell ⟨xa, 1, none⟩ (.slice Q12 m12 d12)) _ _)
          clear ne_xa_b ne_b_xa ne_xa_o ne_o_xa ne_xa_xc ne_xc_xa ne_xa_xd ne_xd_xa ne_xa_xe ne_xe_xa
          have HW := Lib.hid ((HW.out.setCell (p := ⟨xa, 0, none⟩) LWxa.out (.slice P12 n12 c12)).setCell (p := ⟨xa, 1, none⟩) LWxa.out (.slice Q12 m12 d12))
          have XA := Lib.hid (store2 XA.out (.slice P12 n12 c12) (.slice Q12 m12 d12))
          have hsz : ((w14.setCell ⟨xa, 0, none⟩ (.slice P12 n12 c12)).setCell ⟨xa, 1, none⟩ (.slice Q12 m12 d12)).heap.size = w14.heap.size := by simp only [set_size]
          generalize ((w14.setCell ⟨xa, 0, none⟩ (.slice P12 n12 c12)).setCell ⟨xa, 1, none⟩ (.slice Q12 m12 d12)) = u14 at *
          have HT := Lib.hid (below_new u14 (.cells #[.int .i64 C5.op, .slice R12 k12 f12, .int .i64 C5.ht, .bool C5.dead] 46))
          have SS := Lib.hid (SS.out.keep HT.out)
          have RX := Lib.hid (RX.out.keep HT.out)
          have XB := Lib.hid (blk XB.out HT.out)
          have SOp := Lib.hid (SOp.out.keep HT.out)
          have XO := Lib.hid (blk XO.out HT.out)
          have XA := Lib.hid (blk XA.out HT.out)
          have XC := Lib.hid (blk XC.out HT.out)
          have XD := Lib.hid (blk XD.out HT.out)
          have XE := Lib.hid (blk XE.out HT.out)
          have SAp := Lib.hid (SAp.out.keep HT.out)
          have R1 := Lib.hid (R1.out.keep HT.out)
          have HW := Lib.hid (HW.out.trans (HT.out.mono HW.out.size))
          have XF := Lib.hid (heap_new u14 (.cells #[.int .i64 C5.op, .slice R12 k12 f12, .int .i64 C5.ht, .bool C5.dead] 46))
          generalize u14.alloc (.cells #[.int .i64 C5.op, .slice R12 k12 f12, .int .i64 C5.ht, .bool C5.dead] 46) = v14 at *
          obtain ⟨xf, hx⟩ : ∃ x, w14.heap.size = x := ⟨_, rfl⟩
          rw [hsz, hx] at XF
          rw [hx] at HLt
          have Lxf := HLt
          simp only [hx]
          clear hx hsz HT HLt
          have LWxf : Hid (w.heap.size ≤ xf) := Lib.hid (by have := LWxe.out; have := Lxf.out; omega)
          have HK := Lib.hid (rclose_any SS.out HLV.out HLC.out)
          rw [HR5.out] at HK
          refine (HK.out).mono ?_
          rintro e w15 ⟨⟨P13, n13, c13, Q13, m13, d13, R13, k13, f13, rfl, hst, hrow⟩, hb⟩
          clear HK
          have HLt := Lib.hid (Nat.lt_of_lt_of_le (lt_of_heap XF.out) hb.size)
          have SS := Lib.hid (SS.out.keep hb)
          have RX := Lib.hid (RX.out.keep hb)
          have XB := Lib.hid (blk XB.out hb)
          have SOp := Lib.hid (SOp.out.keep hb)
          have XO := Lib.hid (blk XO.out hb)
          have XA := Lib.hid (blk XA.out hb)
          have XC := Lib.hid (blk XC.out hb)
          have XD := Lib.hid (blk XD.out hb)
          have XE := Lib.hid (blk XE.out hb)
          have SAp := Lib.hid (SAp.out.keep hb)
          have R1 := Lib.hid (R1.out.keep hb)
          have XF := Lib.hid (blk XF.out hb)
          have HW := Lib.hid (HW.out.trans (hb.mono HW.out.size))
          have SBd := Lib.hid hst
          have R2 := Lib.hid hrow
          clear hb hst hrow
          obtain ⟨t0, t1⟩ := cells2 XC.out
          have tp0 := (cells_at XC.out 0).2
          have tp1 := (cells_at XC.out 1).2
          have ttl := lt_of_heap XC.out
          obtain ⟨l00, l01⟩ := cells2 XO.out
          have l0l := lt_of_heap XO.out
          have ne_xc_o : xc ≠ o := by have := Lxa.out; have := Lxc.out; omega
          have ne_o_xc : o ≠ xc := Ne.symm ne_xc_o
          go_wp2_with fail
          clear t0 t1 tp0 tp1 ttl
          clear l00 l01 l0l
          clear ne_xc_o ne_o_xc
          have ne_xc_b : xc ≠ b := by have := Lo.out; have := Lxa.out; have := Lxc.out; omega
          have ne_b_xc : b ≠ xc := Ne.symm ne_xc_b
          have ne_xc_o : xc ≠ o := by have := Lxa.out; have := Lxc.out; omega
          have ne_o_xc : o ≠ xc := Ne.symm ne_xc_o
          have ne_xc_xa : xc ≠ xa := by have := Lxc.out; omega
          have ne_xa_xc : xa ≠ xc := Ne.symm ne_xc_xa
          have ne_xc_xd : xc ≠ xd := by have := Lxd.out; omega
          have ne_xd_xc : xd ≠ xc := Ne.symm ne_xc_xd
          have ne_xc_xe : xc ≠ xe := by have := Lxd.out; have := Lxe.out; omega
          have ne_xe_xc : xe ≠ xc := Ne.symm ne_xc_xe
          have ne_xc_xf : xc ≠ xf := by have := Lxd.out; have := Lxe.out; have := Lxf.out; omega
          have ne_xf_xc : xf ≠ xc := Ne.symm ne_xc_xf
          have SS := Lib.hid (StIs.setD SS.out XC.out : StIs _ ((w15.setCell ⟨xc, 0, none⟩ (.slice P13 n13 c13)).setCell ⟨xc, 1, none⟩ (.slice Q13 m13 d13)) _ _)
          have RX := Lib.hid (rowB_set2 RX.out XC.out : Row elB ((w15.setCell ⟨xc, 0, none⟩ (.slice P13 n13 c13)).setCell ⟨xc, 1, none⟩ (.slice Q13 m13 d13)) _ _)
          have XB := Lib.hid (chg_two (a := .slice P13 n13 c13) (b := .slice Q13 m13 d13) XB.out XC.out ne_b_xc)
          have SOp := Lib.hid (StIs.setP SOp.out XC.out : StIs _ ((w15.setCell ⟨xc, 0, none⟩ (.slice P13 n13 c13)).setCell ⟨xc, 1, none⟩ (.slice Q13 m13 d13)) _ _)
          have XO := Lib.hid (chg_two (a := .slice P13 n13 c13) (b := .slice Q13 m13 d13) XO.out XC.out ne_o_xc)
          have XA := Lib.hid (chg_two (a := .slice P13 n13 c13) (b := .slice Q13 m13 d13) XA.out XC.out ne_xa_xc)
          have XD := Lib.hid (chg_two (a := .slice P13 n13 c13) (b := .slice Q13 m13 d13) XD.out XC.out ne_xd_xc)
          have XE := Lib.hid (chg_two (a := .slice P13 n13 c13) (b := .slice Q13 m13 d13) XE.out XC.out ne_xe_xc)
          have SAp := Lib.hid (StIs.setP SAp.out XC.out : StIs _ ((w15.setCell ⟨xc, 0, none⟩ (.slice P13 n13 c13)).setCell ⟨xc, 1, none⟩ (.slice Q13 m13 d13)) _ _)
          have R1 := Lib.hid (rowB_set2 R1.out XC.out : Row elB ((w15.setCell ⟨xc, 0, none⟩ (.slice P13 n13 c13)).setCell ⟨xc, 1, none⟩ (.slice Q13 m13 d13)) _ _)
          have XF := Lib.hid (chg_two (a := .slice P13 n13 c13) (b := .slice Q13 m13 d13) XF.out XC.out ne_xf_xc)
          have SBd := Lib.hid (StIs.setD SBd.out XC.out : StIs _ ((w15.setCell ⟨xc, 0, none⟩ (.slice P13 n13 c13)).setCell ⟨xc, 1, none⟩ (.slice Q13 m13 d13)) _ _)
          have R2 := Lib.hid (rowB_set2 R2.out XC.out : Row elB ((w15.setCell ⟨xc, 0, none⟩ (.slice P13 n13 c13)).setCell ⟨xc, 1, none⟩ (.slice Q13 m13 d13)) _ _)
          clear ne_xc_b ne_b_xc ne_xc_o ne_o_xc ne_xc_xa ne_xa_xc ne_xc_xd ne_xd_xc ne_xc_xe ne_xe_xc ne_xc_xf ne_xf_xc
          have HW := Lib.hid ((HW.out.setCell (p := ⟨xc, 0, none⟩) LWxc.out (.slice P13 n13 c13)).setCell (p := ⟨xc, 1, none⟩) LWxc.out (.slice Q13 m13 d13))
          have XC := Lib.hid (store2 XC.out (.slice P13 n13 c13) (.slice Q13 m13 d13))
          have hsz : ((w15.setCell ⟨xc, 0, none⟩ (.slice P13 n13 c13)).setCell ⟨xc, 1, none⟩ (.slice Q13 m13 d13)).heap.size = w15.heap.size := by simp only [set_size]
          generalize ((w15.setCell ⟨xc, 0, none⟩ (.slice P13 n13 c13)).setCell ⟨xc, 1, none⟩ (.slice Q13 m13 d13)) = u15 at *
          have HT := Lib.hid (below_new u15 (.cells #[.int .i64 C5.op, .slice R13 k13 f13, .int .i64 C5.ht, .bool C5.dead] 49))
          have SS := Lib.hid (SS.out.keep HT.out)
          have RX := Lib.hid (RX.out.keep HT.out)
          have XB := Lib.hid (blk XB.out HT.out)
          have SOp := Lib.hid (SOp.out.keep HT.out)
          have XO := Lib.hid (blk XO.out HT.out)
          have XA := Lib.hid (blk XA.out HT.out)
          have XC := Lib.hid (blk XC.out HT.out)
          have XD := Lib.hid (blk XD.out HT.out)
          have XE := Lib.hid (blk XE.out HT.out)
          have SAp := Lib.hid (SAp.out.keep HT.out)
          have R1 := Lib.hid (R1.out.keep HT.out)
          have XF := Lib.hid (blk XF.out HT.out)
          have SBd := Lib.hid (SBd.out.keep HT.out)
          have R2 := Lib.hid (R2.out.keep HT.out)
          have HW := Lib.hid (HW.out.trans (HT.out.mono HW.out.size))
          have XG := Lib.hid (heap_new u15 (.cells #[.int .i64 C5.op, .slice R13 k13 f13, .int .i64 C5.ht, .bool C5.dead] 49))
          generalize u15.alloc (.cells #[.int .i64 C5.op, .slice R13 k13 f13, .int .i64 C5.ht, .bool C5.dead] 49) = v15 at *
          obtain ⟨xg, hx⟩ : ∃ x, w15.heap.size = x := ⟨_, rfl⟩
          rw [hsz, hx] at XG
          rw [hx] at HLt
          have Lxg := HLt
          simp only [hx]
          clear hx hsz HT HLt
          obtain ⟨⟨A6, e6⟩, hr6⟩ : ∃ r, killS s = r := ⟨_, rfl⟩
          have HR6 := Lib.hid hr6
          clear hr6
          have HK := Lib.hid (Kill_st SOp.out HLV.out HLC.out)
          rw [HR6.out] at HK
          refine (HK.out).mono ?_
          rintro e w16 hen
          obtain ⟨P14, n14, c14, Q14, m14, d14, rfl, hst, hb⟩ := hen.of
          clear hen HK
          have SS := Lib.hid (SS.out.keep hb)
          have RX := Lib.hid (RX.out.keep hb)
          have XB := Lib.hid (blk XB.out hb)
          have SOp := Lib.hid (SOp.out.keep hb)
          have XO := Lib.hid (blk XO.out hb)
          have XA := Lib.hid (blk XA.out hb)
          have XC := Lib.hid (blk XC.out hb)
          have XD := Lib.hid (blk XD.out hb)
          have XE := Lib.hid (blk XE.out hb)
          have SAp := Lib.hid (SAp.out.keep hb)
          have R1 := Lib.hid (R1.out.keep hb)
          have XF := Lib.hid (blk XF.out hb)
          have SBd := Lib.hid (SBd.out.keep hb)
          have R2 := Lib.hid (R2.out.keep hb)
          have XG := Lib.hid (blk XG.out hb)
          have HW := Lib.hid (HW.out.trans (hb.mono HW.out.size))
          have SCp := Lib.hid hst
          clear hb hst
          obtain ⟨t0, t1⟩ := cells2 XD.out
          have tp0 := (cells_at XD.out 0).2
          have tp1 := (cells_at XD.out 1).2
          have ttl := lt_of_heap XD.out
          obtain ⟨l00, l01⟩ := cells2 XB.out
          have l0l := lt_of_heap XB.out
          have ne_xd_b : xd ≠ b := by have := Lo.out; have := Lxa.out; have := Lxc.out; have := Lxd.out; omega
          have ne_b_xd : b ≠ xd := Ne.symm ne_xd_b
          go_wp2_with fail
          clear t0 t1 tp0 tp1 ttl
          clear l00 l01 l0l
          clear ne_xd_b ne_b_xd
          have ne_xd_b : xd ≠ b := by have := Lo.out; have := Lxa.out; have := Lxc.out; have := Lxd.out; omega
          have ne_b_xd : b ≠ xd := Ne.symm ne_xd_b
          have ne_xd_o : xd ≠ o := by have := Lxa.out; have := Lxc.out; have := Lxd.out; omega
          have ne_o_xd : o ≠ xd := Ne.symm ne_xd_o
          have ne_xd_xa : xd ≠ xa := by have := Lxc.out; have := Lxd.out; omega
          have ne_xa_xd : xa ≠ xd := Ne.symm ne_xd_xa
          have ne_xd_xc : xd ≠ xc := by have := Lxd.out; omega
          have ne_xc_xd : xc ≠ xd := Ne.symm ne_xd_xc
          have ne_xd_xe : xd ≠ xe := by have := Lxe.out; omega
          have ne_xe_xd : xe ≠ xd := Ne.symm ne_xd_xe
          have ne_xd_xf : xd ≠ xf := by have := Lxe.out; have := Lxf.out; omega
          have ne_xf_xd : xf ≠ xd := Ne.symm ne_xd_xf
          have ne_xd_xg : xd ≠ xg := by have := Lxe.out; have := Lxf.out; have := Lxg.out; omega
          have ne_xg_xd : xg ≠ xd := Ne.symm ne_xd_xg
          have SS := Lib.hid (StIs.setD SS.out XD.out : StIs _ ((w16.setCell ⟨xd, 0, none⟩ (.slice P14 n14 c14)).setCell ⟨xd, 1, none⟩ (.slice Q14 m14 d14)) _ _)
          have RX := Lib.hid (rowB_set2 RX.out XD.out : Row elB ((w16.setCell ⟨xd, 0, none⟩ (.slice P14 n14 c14)).setCell ⟨xd, 1, none⟩ (.slice Q14 m14 d14)) _ _)
          have XB := Lib.hid (chg_two (a := .slice P14 n14 c14) (b := .slice Q14 m14 d14) XB.out XD.out ne_b_xd)
          have SOp := Lib.hid (StIs.setP SOp.out XD.out : StIs _ ((w16.setCell ⟨xd, 0, none⟩ (.slice P14 n14 c14)).setCell ⟨xd, 1, none⟩ (.slice Q14 m14 d14)) _ _)
          have XO := Lib.hid (chg_two (a := .slice P14 n14 c14) (b := .slice Q14 m14 d14) XO.out XD.out ne_o_xd)
          have XA := Lib.hid (chg_two (a := .slice P14 n14 c14) (b := .slice Q14 m14 d14) XA.out XD.out ne_xa_xd)
          have XC := Lib.hid (chg_two (a := .slice P14 n14 c14) (b := .slice Q14 m14 d14) XC.out XD.out ne_xc_xd)
          have XE := Lib.hid (chg_two (a := .slice P14 n14 c14) (b := .slice Q14 m14 d14) XE.out XD.out ne_xe_xd)
          have SAp := Lib.hid (StIs.setP SAp.out XD.out : StIs _ ((w16.setCell ⟨xd, 0, none⟩ (.slice P14 n14 c14)).setCell ⟨xd, 1, none⟩ (.slice Q14 m14 d14)) _ _)
          have R1 := Lib.hid (rowB_set2 R1.out XD.out : Row elB ((w16.setCell ⟨xd, 0, none⟩ (.slice P14 n14 c14)).setCell ⟨xd, 1, none⟩ (.slice Q14 m14 d14)) _ _)
          have XF := Lib.hid (chg_two (a := .slice P14 n14 c14) (b := .slice Q14 m14 d14) XF.out XD.out ne_xf_xd)
          have SBd := Lib.hid (StIs.setD SBd.out XD.out : StIs _ ((w16.setCell ⟨xd, 0, none⟩ (.slice P14 n14 c14)).setCell ⟨xd, 1, none⟩ (.slice Q14 m14 d14)) _ _)
          have R2 := Lib.hid (rowB_set2 R2.out XD.out : Row elB ((w16.setCell ⟨xd, 0, none⟩ (.slice P14 n14 c14)).setCell ⟨xd, 1, none⟩ (.slice Q14 m14 d14)) _ _)
          have XG := Lib.hid (chg_two (a := .slice P14 n14 c14) (b := .slice Q14 m14 d14) XG.out XD.out ne_xg_xd)
          have SCp := Lib.hid (StIs.setP SCp.out XD.out : StIs _ ((w16.setCell ⟨xd, 0, none⟩ (.slice P14 n14 c14)).setCell ⟨xd, 1, none⟩ (.slice Q14 m14 d14)) _ _)
          clear ne_xd_b ne_b_xd ne_xd_o ne_o_xd ne_xd_xa ne_xa_xd ne_xd_xc ne_xc_xd ne_xd_xe ne_xe_xd ne_xd_xf ne_xf_xd ne_xd_xg ne_xg_xd
          have HW := Lib.hid ((HW.out.setCell (p := ⟨xd, 0, none⟩) LWxd.out (.slice P14 n14 c14)).setCell (p := ⟨xd, 1, none⟩) LWxd.out (.slice Q14 m14 d14))
          have XD := Lib.hid (store2 XD.out (.slice P14 n14 c14) (.slice Q14 m14 d14))
          generalize (w16.setCell ⟨xd, 0, none⟩ (.slice P14 n14 c14)).setCell ⟨xd, 1, none⟩ (.slice Q14 m14 d14) = v16 at *
          have HK := Lib.hid (rkill_any SS.out HLV.out HLC.out)
          rw [HR6.out] at HK
          refine (HK.out).mono ?_
          rintro e w17 ⟨⟨P15, n15, c15, Q15, m15, d15, rfl, hst⟩, hb⟩
          clear HK
          have SS := Lib.hid (SS.out.keep hb)
          have RX := Lib.hid (RX.out.keep hb)
          have XB := Lib.hid (blk XB.out hb)
          have SOp := Lib.hid (SOp.out.keep hb)
          have XO := Lib.hid (blk XO.out hb)
          have XA := Lib.hid (blk XA.out hb)
          have XC := Lib.hid (blk XC.out hb)
          have XD := Lib.hid (blk XD.out hb)
          have XE := Lib.hid (blk XE.out hb)
          have SAp := Lib.hid (SAp.out.keep hb)
          have R1 := Lib.hid (R1.out.keep hb)
          have XF := Lib.hid (blk XF.out hb)
          have SBd := Lib.hid (SBd.out.keep hb)
          have R2 := Lib.hid (R2.out.keep hb)
          have XG := Lib.hid (blk XG.out hb)
          have SCp := Lib.hid (SCp.out.keep hb)
          have HW := Lib.hid (HW.out.trans (hb.mono HW.out.size))
          have SDd := Lib.hid hst
          clear hb hst
          obtain ⟨t0, t1⟩ := cells2 XE.out
          have tp0 := (cells_at XE.out 0).2
          have tp1 := (cells_at XE.out 1).2
          have ttl := lt_of_heap XE.out
          obtain ⟨l00, l01⟩ := cells2 XO.out
          have l0l := lt_of_heap XO.out
          have ne_xe_o : xe ≠ o := by have := Lxa.out; have := Lxc.out; have := Lxd.out; have := Lxe.out; omega
          have ne_o_xe : o ≠ xe := Ne.symm ne_xe_o
          go_wp2_with fail
          clear t0 t1 tp0 tp1 ttl
          clear l00 l01 l0l
          clear ne_xe_o ne_o_xe
          have ne_xe_b : xe ≠ b := by have := Lo.out; have := Lxa.out; have := Lxc.out; have := Lxd.out; have := Lxe.out; omega
          have ne_b_xe : b ≠ xe := Ne.symm ne_xe_b
          have ne_xe_o : xe ≠ o := by have := Lxa.out; have := Lxc.out; have := Lxd.out; have := Lxe.out; omega
          have ne_o_xe : o ≠ xe := Ne.symm ne_xe_o
          have ne_xe_xa : xe ≠ xa := by have := Lxc.out; have := Lxd.out; have := Lxe.out; omega
          have ne_xa_xe : xa ≠ xe := Ne.symm ne_xe_xa
          have ne_xe_xc : xe ≠ xc := by have := Lxd.out; have := Lxe.out; omega
          have ne_xc_xe : xc ≠ xe := Ne.symm ne_xe_xc
          have ne_xe_xd : xe ≠ xd := by have := Lxe.out; omega
          have ne_xd_xe : xd ≠ xe := Ne.symm ne_xe_xd
          have ne_xe_xf : xe ≠ xf := by have := Lxf.out; omega
          have ne_xf_xe : xf ≠ xe := Ne.symm ne_xe_xf
          have ne_xe_xg : xe ≠ xg := by have := Lxf.out; have := Lxg.out; omega
          have ne_xg_xe : xg ≠ xe := Ne.symm ne_xe_xg
          have SS := Lib.hid (StIs.setD SS.out XE.out : StIs _ ((w17.setCell ⟨xe, 0, none⟩ (.slice P15 n15 c15)).setCell ⟨xe, 1, none⟩ (.slice Q15 m15 d15)) _ _)
          have RX := Lib.hid (rowB_set2 RX.out XE.out : Row elB ((w17.setCell ⟨xe, 0, none⟩ (.slice P15 n15 c15)).setCell ⟨xe, 1, none⟩ (.slice Q15 m15 d15)) _ _)
          have XB := Lib.hid (chg_two (a := .slice P15 n15 c15) (b := .slice Q15 m15 d15) XB.out XE.out ne_b_xe)
          have SOp := Lib.hid (StIs.setP SOp.out XE.out : StIs _ ((w17.setCell ⟨xe, 0, none⟩ (.slice P15 n15 c15)).setCell ⟨xe, 1, none⟩ (.slice Q15 m15 d15)) _ _)
          have XO := Lib.hid (chg_two (a := .slice P15 n15 c15) (b := .slice Q15 m15 d15) XO.out XE.out ne_o_xe)
          have XA := Lib.hid (chg_two (a := .slice P15 n15 c15) (b := .slice Q15 m15 d15) XA.out XE.out ne_xa_xe)
          have XC := Lib.hid (chg_two (a := .slice P15 n15 c15) (b := .slice Q15 m15 d15) XC.out XE.out ne_xc_xe)
          have XD := Lib.hid (chg_two (a := .slice P15 n15 c15) (b := .slice Q15 m15 d15) XD.out XE.out ne_xd_xe)
          have SAp := Lib.hid (StIs.setP SAp.out XE.out : StIs _ ((w17.setCell ⟨xe, 0, none⟩ (.slice P15 n15 c15)).setCell ⟨xe, 1, none⟩ (.slice Q15 m15 d15)) _ _)
          have R1 := Lib.hid (rowB_set2 R1.out XE.out : Row elB ((w17.setCell ⟨xe, 0, none⟩ (.slice P15 n15 c15)).setCell ⟨xe, 1, none⟩ (.slice Q15 m15 d15)) _ _)
          have XF := Lib.hid (chg_two (a := .slice P15 n15 c15) (b := .slice Q15 m15 d15) XF.out XE.out ne_xf_xe)
          have SBd := Lib.hid (StIs.setD SBd.out XE.out : StIs _ ((w17.setCell ⟨xe, 0, none⟩ (.slice P15 n15 c15)).setCell ⟨xe, 1, none⟩ (.slice Q15 m15 d15)) _ _)
          have R2 := Lib.hid (rowB_set2 R2.out XE.out : Row elB ((w17.setCell ⟨xe, 0, none⟩ (.slice P15 n15 c15)).setCell ⟨xe, 1, none⟩ (.slice Q15 m15 d15)) _ _)
          have XG := Lib.hid (chg_two (a := .slice P15 n15 c15) (b := .slice Q15 m15 d15) XG.out XE.out ne_xg_xe)
          have SCp := Lib.hid (StIs.setP SCp.out XE.out : StIs _ ((w17.setCell ⟨xe, 0, none⟩ (.slice P15 n15 c15)).setCell ⟨xe, 1, none⟩ (.slice Q15 m15 d15)) _ _)
          have SDd := Lib.hid (StIs.setD SDd.out XE.out : StIs _ ((w17.setCell ⟨xe, 0, none⟩ (.slice P15 n15 c15)).setCell ⟨xe, 1, none⟩ (.slice Q15 m15 d15)) _ _)
          clear ne_xe_b ne_b_xe ne_xe_o ne_o_xe ne_xe_xa ne_xa_xe ne_xe_xc ne_xc_xe ne_xe_xd ne_xd_xe ne_xe_xf ne_xf_xe ne_xe_xg ne_xg_xe
          have HW := Lib.hid ((HW.out.setCell (p := ⟨xe, 0, none⟩) LWxe.out (.slice P15 n15 c15)).setCell (p := ⟨xe, 1, none⟩) LWxe.out (.slice Q15 m15 d15))
          have XE := Lib.hid (store2 XE.out (.slice P15 n15 c15) (.slice Q15 m15 d15))
          generalize (w17.setCell ⟨xe, 0, none⟩ (.slice P15 n15 c15)).setCell ⟨xe, 1, none⟩ (.slice Q15 m15 d15) = v17 at *
          obtain ⟨⟨L7, e7⟩, hr7⟩ : ∃ r, labelS s n = r := ⟨_, rfl⟩
          have HR7 := Lib.hid hr7
          clear hr7
          have HK := Lib.hid (Label_go SOp.out HN.out HLC.out HM.out.2.2)
          rw [HR7.out] at HK
          refine (HK.out).mono ?_
          rintro e w18 hen
          obtain ⟨P16, n16, c16, rfl, hrow, _, hb⟩ := hen.of
          clear hen HK
          have SS := Lib.hid (SS.out.keep hb)
          have RX := Lib.hid (RX.out.keep hb)
          have XB := Lib.hid (blk XB.out hb)
          have SOp := Lib.hid (SOp.out.keep hb)
          have XO := Lib.hid (blk XO.out hb)
          have XA := Lib.hid (blk XA.out hb)
          have XC := Lib.hid (blk XC.out hb)
          have XD := Lib.hid (blk XD.out hb)
          have XE := Lib.hid (blk XE.out hb)
          have SAp := Lib.hid (SAp.out.keep hb)
          have R1 := Lib.hid (R1.out.keep hb)
          have XF := Lib.hid (blk XF.out hb)
          have SBd := Lib.hid (SBd.out.keep hb)
          have R2 := Lib.hid (R2.out.keep hb)
          have XG := Lib.hid (blk XG.out hb)
          have SCp := Lib.hid (SCp.out.keep hb)
          have SDd := Lib.hid (SDd.out.keep hb)
          have HW := Lib.hid (HW.out.trans (hb.mono HW.out.size))
          have R3 := Lib.hid hrow
          clear hb hrow
          obtain ⟨l00, l01⟩ := cells2 XB.out
          have l0l := lt_of_heap XB.out
          go_wp2_with fail
          clear l00 l01 l0l
          have HK := Lib.hid (rLabel_go SS.out HN.out HLC.out HM.out.2.2)
          rw [HR7.out] at HK
          refine (HK.out).mono ?_
          rintro e w19 hen
          obtain ⟨P17, n17, c17, rfl, hrow, _, hb⟩ := hen.of
          clear hen HK
          have SS := Lib.hid (SS.out.keep hb)
          have RX := Lib.hid (RX.out.keep hb)
          have XB := Lib.hid (blk XB.out hb)
          have SOp := Lib.hid (SOp.out.keep hb)
          have XO := Lib.hid (blk XO.out hb)
          have XA := Lib.hid (blk XA.out hb)
          have XC := Lib.hid (blk XC.out hb)
          have XD := Lib.hid (blk XD.out hb)
          have XE := Lib.hid (blk XE.out hb)
          have SAp := Lib.hid (SAp.out.keep hb)
          have R1 := Lib.hid (R1.out.keep hb)
          have XF := Lib.hid (blk XF.out hb)
          have SBd := Lib.hid (SBd.out.keep hb)
          have R2 := Lib.hid (R2.out.keep hb)
          have XG := Lib.hid (blk XG.out hb)
          have SCp := Lib.hid (SCp.out.keep hb)
          have SDd := Lib.hid (SDd.out.keep hb)
          have R3 := Lib.hid (R3.out.keep hb)
          have HW := Lib.hid (HW.out.trans (hb.mono HW.out.size))
          have R4 := Lib.hid hrow
          clear hb hrow
          go_wp2_with fail
          have HA5 : Hid (A5.cs.length ≤ 400000) := Lib.hid (by have := HLE.out.2.2.2.2.1; rw [HR5.out] at this; exact this)
          have HA6 : Hid (A6.cs.length ≤ 400000) := Lib.hid (by have := HLE.out.2.2.2.2.2; rw [HR6.out] at this; exact this)
          have HS1 := Lib.hid (fun W (hW : Below w19.heap.size w19 W) => run_txt (R3.out.keep hW))
          have HS2 := Lib.hid (fun W (hW : Below w19.heap.size w19 W) => run_txt (R4.out.keep hW))
          have HSn := Lib.hid (fun W (hW : Below w19.heap.size w19 W) => Sane_st (SOp.out.keep hW))
          have HSr := Lib.hid (fun W (hW : Below w19.heap.size w19 W) => rsane_any (SS.out.keep hW))
          generalize strOfNums L7 = S7 at HS1 HS2
          generalize sane s = sq at HSn HSr
          refine Stab.region 226 [.is (.bool true), .is (.bool true), .is (.agg #[.slice P12 n12 c12, .slice Q12 m12 d12]), .fits (fun v W => StIs elD W v A5), .is (.agg #[.slice P13 n13 c13, .slice Q13 m13 d13]), .is (.bool true), .is (.bool true), .is (.bool true), .is (.agg #[.int .i64 C5.op, .slice R12 k12 f12, .int .i64 C5.ht, .bool C5.dead]), .is (.agg #[.int .i64 C5.op, .slice R12 k12 f12, .int .i64 C5.ht, .bool C5.dead]), .is (.agg #[.int .i64 C5.op, .slice R13 k13 f13, .int .i64 C5.ht, .bool C5.dead]), .is (.bool true), .is (.bool true), .is (.bool true), .is (.int .i64 e5), .is (.int .i64 e5), .is (.bool true), .is (.bool true), .is (.bool true), .is (.agg #[.slice P14 n14 c14, .slice Q14 m14 d14]), .fits (fun v W => StIs elD W v A6), .is (.agg #[.slice P15 n15 c15, .slice Q15 m15 d15]), .is (.bool true), .is (.bool true), .is (.bool true), .is (.int .i64 e6), .is (.int .i64 e6), .is (.bool true), .is (.bool true), .is (.bool true), .is (.slice P16 n16 c16), .is (.string S7), .is (.slice P17 n17 c17), .is (.string S7), .is (.bool true), .is (.bool true), .is (.bool true), .is (.int .i64 e7), .is (.int .i64 e7), .is (.bool true), .is (.bool true), .is (.bool true), .is (.agg #[.slice P3 n3 c3, .slice Q3 m3 d3]), .is (.bool sq), .is (.agg #[.slice P np cp, .slice Q m d]), .is (.bool sq), .is (.bool true), .is (.bool true), .is (.bool true), .is (.agg #[.slice P3 n3 c3, .slice Q3 m3 d3]), .fits (fun v W => StIs elD W v s), .is (.agg #[.slice P np cp, .slice Q m d]), .is (.bool true), .is (.bool true), .is (.bool true)] (by kernel_rfl) (by kernel_rfl) rfl rfl ?_ ?_
          · skip
            with_reducible refine Stab.steps_cons ?_ ?_ ?_
            · exact Stab.owes_move rfl rfl rfl
            · exact trivial
            with_reducible refine Stab.steps_cons ?_ ?_ ?_
            · exact Stab.owes_move rfl rfl rfl
            · exact trivial
            with_reducible refine Stab.steps_cons ?_ ?_ ?_
            · exact Stab.owes_load rfl (fun v W hb hv => by subst hv; exact ld_stk (blk XA.out hb)) rfl
            · exact trivial
            with_reducible refine Stab.steps_cons ?_ ?_ ?_
            · (refine Stab.owes_call Try.func12 (by kernel_rfl) (by kernel_rfl) rfl (fun vs W hb hall => ?_) rfl; obtain ⟨_, _, rfl, rfl, rfl⟩ := hall; refine (theirs_any (SAp.out.keep hb) HA5.out).mono ?_; rintro e w2 ⟨⟨P', n', c', Q', m', d', rfl, hv⟩, hb2⟩; exact ⟨_, rfl, hb2, hv⟩)
            · exact fun v w w' h hb => StIs.keep h hb
            with_reducible refine Stab.steps_cons ?_ ?_ ?_
            · exact Stab.owes_load rfl (fun v W hb hv => by subst hv; exact ld_stD (blk XC.out hb)) rfl
            · exact trivial
            with_reducible refine Stab.steps_cons ?_ ?_ ?_
            · (refine Stab.owes_call Try.func11 (by kernel_rfl) (by kernel_rfl) rfl (fun vs W hb hall => ?_) rfl; obtain ⟨v1, _, rfl, h1, v2, _, rfl, h2, rfl⟩ := hall; have h1 : StIs elD W v1 A5 := h1; have h2 := (show v2 = _ from h2); subst h2; refine (same_yes h1 (SBd.out.keep hb) (by have := HA5.out; omega)).mono ?_; rintro e w2 ⟨rfl, hb2⟩; exact ⟨_, rfl, hb2, rfl⟩)
            · exact trivial
            with_reducible refine Stab.steps_cons ?_ ?_ ?_
            · exact Stab.owes_pick rfl rfl rfl rfl
            · exact trivial
            with_reducible refine Stab.steps_cons ?_ ?_ ?_
            · exact Stab.owes_move rfl rfl rfl
            · exact trivial
            with_reducible refine Stab.steps_cons ?_ ?_ ?_
            · exact Stab.owes_load rfl (fun v W hb hv => by subst hv; exact ld_ctlP (blk XF.out hb)) rfl
            · exact trivial
            with_reducible refine Stab.steps_cons ?_ ?_ ?_
            · (refine Stab.owes_call Try.func24 (by kernel_rfl) (by kernel_rfl) rfl (fun vs W hb hall => ?_) rfl; obtain ⟨_, _, rfl, rfl, rfl⟩ := hall; refine ctrl_any.mono ?_; rintro e w2 ⟨rfl, hb2⟩; exact ⟨_, rfl, hb2, rfl⟩)
            · exact trivial
            with_reducible refine Stab.steps_cons ?_ ?_ ?_
            · exact Stab.owes_load rfl (fun v W hb hv => by subst hv; exact ld_ctlD (blk XG.out hb)) rfl
            · exact trivial
            with_reducible refine Stab.steps_cons ?_ ?_ ?_
            · (refine Stab.owes_call Try.func23 (by kernel_rfl) (by kernel_rfl) rfl (fun vs W hb hall => ?_) rfl; obtain ⟨_, _, rfl, rfl, _, _, rfl, rfl, rfl⟩ := hall; refine (samec_yes (R1.out.keep hb) (R2.out.keep hb)).mono ?_; rintro e w2 ⟨rfl, hb2⟩; exact ⟨_, rfl, hb2, rfl⟩)
            · exact trivial
            with_reducible refine Stab.steps_cons ?_ ?_ ?_
            · exact Stab.owes_pick rfl rfl rfl rfl
            · exact trivial
            with_reducible refine Stab.steps_cons ?_ ?_ ?_
            · exact Stab.owes_move rfl rfl rfl
            · exact trivial
            with_reducible refine Stab.steps_cons ?_ ?_ ?_
            · exact Stab.owes_move rfl rfl rfl
            · exact trivial
            with_reducible refine Stab.steps_cons ?_ ?_ ?_
            · exact Stab.owes_move rfl rfl rfl
            · exact trivial
            with_reducible refine Stab.steps_cons ?_ ?_ ?_
            · exact Stab.owes_bin rfl rfl rfl (fun W => Stab.run_eqE _ _ e5 e5 true (by simp) W) rfl
            · exact trivial
            with_reducible refine Stab.steps_cons ?_ ?_ ?_
            · exact Stab.owes_pick rfl rfl rfl rfl
            · exact trivial
            with_reducible refine Stab.steps_cons ?_ ?_ ?_
            · exact Stab.owes_move rfl rfl rfl
            · exact trivial
            with_reducible refine Stab.steps_cons ?_ ?_ ?_
            · exact Stab.owes_load rfl (fun v W hb hv => by subst hv; exact ld_stk (blk XD.out hb)) rfl
            · exact trivial
            with_reducible refine Stab.steps_cons ?_ ?_ ?_
            · (refine Stab.owes_call Try.func12 (by kernel_rfl) (by kernel_rfl) rfl (fun vs W hb hall => ?_) rfl; obtain ⟨_, _, rfl, rfl, rfl⟩ := hall; refine (theirs_any (SCp.out.keep hb) HA6.out).mono ?_; rintro e w2 ⟨⟨P', n', c', Q', m', d', rfl, hv⟩, hb2⟩; exact ⟨_, rfl, hb2, hv⟩)
            · exact fun v w w' h hb => StIs.keep h hb
            with_reducible refine Stab.steps_cons ?_ ?_ ?_
            · exact Stab.owes_load rfl (fun v W hb hv => by subst hv; exact ld_stD (blk XE.out hb)) rfl
            · exact trivial
            with_reducible refine Stab.steps_cons ?_ ?_ ?_
            · (refine Stab.owes_call Try.func11 (by kernel_rfl) (by kernel_rfl) rfl (fun vs W hb hall => ?_) rfl; obtain ⟨v1, _, rfl, h1, v2, _, rfl, h2, rfl⟩ := hall; have h1 : StIs elD W v1 A6 := h1; have h2 := (show v2 = _ from h2); subst h2; refine (same_yes h1 (SDd.out.keep hb) (by have := HA6.out; omega)).mono ?_; rintro e w2 ⟨rfl, hb2⟩; exact ⟨_, rfl, hb2, rfl⟩)
            · exact trivial
            with_reducible refine Stab.steps_cons ?_ ?_ ?_
            · exact Stab.owes_pick rfl rfl rfl rfl
            · exact trivial
            with_reducible refine Stab.steps_cons ?_ ?_ ?_
            · exact Stab.owes_move rfl rfl rfl
            · exact trivial
            with_reducible refine Stab.steps_cons ?_ ?_ ?_
            · exact Stab.owes_move rfl rfl rfl
            · exact trivial
            with_reducible refine Stab.steps_cons ?_ ?_ ?_
            · exact Stab.owes_move rfl rfl rfl
            · exact trivial
            with_reducible refine Stab.steps_cons ?_ ?_ ?_
            · exact Stab.owes_bin rfl rfl rfl (fun W => Stab.run_eqE _ _ e6 e6 true (by simp) W) rfl
            · exact trivial
            with_reducible refine Stab.steps_cons ?_ ?_ ?_
            · exact Stab.owes_pick rfl rfl rfl rfl
            · exact trivial
            with_reducible refine Stab.steps_cons ?_ ?_ ?_
            · exact Stab.owes_move rfl rfl rfl
            · exact trivial
            with_reducible refine Stab.steps_cons ?_ ?_ ?_
            · exact Stab.owes_move rfl rfl rfl
            · exact trivial
            with_reducible refine Stab.steps_cons ?_ ?_ ?_
            · exact Stab.owes_convert rfl (fun v W hb hv => by subst hv; exact HS1.out W hb) rfl
            · exact trivial
            with_reducible refine Stab.steps_cons ?_ ?_ ?_
            · exact Stab.owes_move rfl rfl rfl
            · exact trivial
            with_reducible refine Stab.steps_cons ?_ ?_ ?_
            · exact Stab.owes_convert rfl (fun v W hb hv => by subst hv; exact HS2.out W hb) rfl
            · exact trivial
            with_reducible refine Stab.steps_cons ?_ ?_ ?_
            · exact Stab.owes_bin rfl rfl rfl (fun W => Stab.run_eqS _ _ S7 S7 true (by simp) W) rfl
            · exact trivial
            with_reducible refine Stab.steps_cons ?_ ?_ ?_
            · exact Stab.owes_pick rfl rfl rfl rfl
            · exact trivial
            with_reducible refine Stab.steps_cons ?_ ?_ ?_
            · exact Stab.owes_move rfl rfl rfl
            · exact trivial
            with_reducible refine Stab.steps_cons ?_ ?_ ?_
            · exact Stab.owes_move rfl rfl rfl
            · exact trivial
            with_reducible refine Stab.steps_cons ?_ ?_ ?_
            · exact Stab.owes_move rfl rfl rfl
            · exact trivial
            with_reducible refine Stab.steps_cons ?_ ?_ ?_
            · exact Stab.owes_bin rfl rfl rfl (fun W => Stab.run_eqE _ _ e7 e7 true (by simp) W) rfl
            · exact trivial
            with_reducible refine Stab.steps_cons ?_ ?_ ?_
            · exact Stab.owes_pick rfl rfl rfl rfl
            · exact trivial
            with_reducible refine Stab.steps_cons ?_ ?_ ?_
            · exact Stab.owes_move rfl rfl rfl
            · exact trivial
            with_reducible refine Stab.steps_cons ?_ ?_ ?_
            · exact Stab.owes_load rfl (fun v W hb hv => by subst hv; exact ld_stk (blk XO.out hb)) rfl
            · exact trivial
            with_reducible refine Stab.steps_cons ?_ ?_ ?_
            · (refine Stab.owes_call Try.func25 (by kernel_rfl) (by kernel_rfl) rfl (fun vs W hb hall => ?_) rfl; obtain ⟨_, _, rfl, rfl, rfl⟩ := hall; refine (HSn.out W hb).mono ?_; rintro e w2 ⟨rfl, hb2⟩; exact ⟨_, rfl, hb2, rfl⟩)
            · exact trivial
            with_reducible refine Stab.steps_cons ?_ ?_ ?_
            · exact Stab.owes_load rfl (fun v W hb hv => by subst hv; exact ld_stD (blk XB.out hb)) rfl
            · exact trivial
            with_reducible refine Stab.steps_cons ?_ ?_ ?_
            · (refine Stab.owes_call Try.func26 (by kernel_rfl) (by kernel_rfl) rfl (fun vs W hb hall => ?_) rfl; obtain ⟨_, _, rfl, rfl, rfl⟩ := hall; refine (HSr.out W hb).mono ?_; rintro e w2 ⟨rfl, hb2⟩; exact ⟨_, rfl, hb2, rfl⟩)
            · exact trivial
            with_reducible refine Stab.steps_cons ?_ ?_ ?_
            · exact Stab.owes_bin rfl rfl rfl (fun W => run_eqB _ _ sq sq true (by simp) W) rfl
            · exact trivial
            with_reducible refine Stab.steps_cons ?_ ?_ ?_
            · exact Stab.owes_pick rfl rfl rfl rfl
            · exact trivial
            with_reducible refine Stab.steps_cons ?_ ?_ ?_
            · exact Stab.owes_move rfl rfl rfl
            · exact trivial
            with_reducible refine Stab.steps_cons ?_ ?_ ?_
            · exact Stab.owes_load rfl (fun v W hb hv => by subst hv; exact ld_stk (blk XO.out hb)) rfl
            · exact trivial
            with_reducible refine Stab.steps_cons ?_ ?_ ?_
            · (refine Stab.owes_call Try.func12 (by kernel_rfl) (by kernel_rfl) rfl (fun vs W hb hall => ?_) rfl; obtain ⟨_, _, rfl, rfl, rfl⟩ := hall; refine (theirs_any (SOp.out.keep hb) HLC.out).mono ?_; rintro e w2 ⟨⟨P', n', c', Q', m', d', rfl, hv⟩, hb2⟩; exact ⟨_, rfl, hb2, hv⟩)
            · exact fun v w w' h hb => StIs.keep h hb
            with_reducible refine Stab.steps_cons ?_ ?_ ?_
            · exact Stab.owes_load rfl (fun v W hb hv => by subst hv; exact ld_stD (blk XB.out hb)) rfl
            · exact trivial
            with_reducible refine Stab.steps_cons ?_ ?_ ?_
            · (refine Stab.owes_call Try.func11 (by kernel_rfl) (by kernel_rfl) rfl (fun vs W hb hall => ?_) rfl; obtain ⟨v1, _, rfl, h1, v2, _, rfl, h2, rfl⟩ := hall; have h1 : StIs elD W v1 s := h1; have h2 := (show v2 = _ from h2); subst h2; refine (same_yes h1 (SS.out.keep hb) (by have := HLC.out; omega)).mono ?_; rintro e w2 ⟨rfl, hb2⟩; exact ⟨_, rfl, hb2, rfl⟩)
            · exact trivial
            with_reducible refine Stab.steps_cons ?_ ?_ ?_
            · exact Stab.owes_pick rfl rfl rfl rfl
            · exact trivial
            with_reducible refine Stab.steps_cons ?_ ?_ ?_
            · exact Stab.owes_assign rfl rfl rfl
            · exact trivial
            exact Stab.steps_nil
          · intro y5 y6 y7 w20 hb _
            have HW := Lib.hid (HW.out.trans (hb.mono HW.out.size))
            clear hb
            simp only [Act.put, List.setIfInBounds_toArray, List.set_cons_succ, List.set_cons_zero]
            go_wp2_with fail
            exact bodyPost_ret (v := .bool true) (by simp [results, Try.results3, go_sem]) rfl ⟨rfl, HW.out⟩
end Go.Proofs.Ytlappkflnlbfcaa.Stk
