/- ChkTk2, ChkTk3, ChkTk4, ChkTk5, ChkTk6, ChkTk7, ChkTk8, ChkTk9, ChkTakes. -/
import Derived.Test.YtlappkflnlbfcaaGreatDoorPkChkTk1
section
/- An instruction, of kind 2: walked (gen_cktake.py). -/
namespace Go.Proofs.YtlappkflnlbfcaaGreatDoor.Chk
open Go.RowKit Row9 Stk
set_option maxRecDepth 100000
set_option maxHeartbeats 8000000
set_option linter.unusedVariables false
theorem take_2 {w : World} {k : Nat} {V : EV} {E : EnvP} {s : Stk} {op A B K : Int} {LL : List Int} {lab : Value} (h : Cx w k V E (.ok s)) (hb : Bd (.ok s) 300000) (hf : FnBd E) (hl : LabAt w k lab LL) (hu : Ints.u64R K) (hT : Ins.KTab w) (hA : Ins.ATab w) (hk : Ins.kd op = 2) (hs : Ins.saneI ⟨op, A, B, K, LL⟩ = true) : Calls Tryz.prog 27 #[.pointer (some ⟨k, 0, none⟩), .agg #[.int .i64 op, .int .i64 A, .int .i64 B, .int .u64 K, lab]] w (CkEnds w k V E (blockR op A s) (.tuple #[])) := by
  have HA2 : Hid (A = 0 ∨ A = 127 ∨ A = 126) := by
    have := hs
    rw [Ins.saneI_eq, hk, Ins.saneK_2] at this
    simp only [Bool.and_eq_true, Bool.or_eq_true, beq_iff_eq] at this
    rcases this.1 with (h | h) | h
    · exact .inl h
    · exact .inr (.inl h)
    · exact .inr (.inr h)
  have HO2 : Hid (w64 op) := by
    have hr : op = 2 ∨ op = 3 ∨ op = 4 := by
      have hk := hk
      unfold Ins.kd at hk
      split at hk
      · omega
      · repeat (first | omega | (split at hk))
    rcases hr with rfl | rfl | rfl <;> exact ⟨by decide, by decide⟩
  have HB0 := Lib.hid hb
  have HFB := Lib.hid hf
  have HKQ := Lib.hid hk
  have HL0 := Lib.hid (hl.keep (below_new w (.cells #[.int .i64 op, .int .i64 A, .int .i64 B, .int .u64 K, lab] 33)))
  have HKT := Lib.hid (hT.keep (below_new w (.cells #[.int .i64 op, .int .i64 A, .int .i64 B, .int .u64 K, lab] 33)))
  have HAT := Lib.hid (hA.keep (below_new w (.cells #[.int .i64 op, .int .i64 A, .int .i64 B, .int .u64 K, lab] 33)))
  have HBT : Hid (But k w (w.alloc (.cells #[.int .i64 op, .int .i64 A, .int .i64 B, .int .u64 K, lab] 33))) := But.of_below (below_new w (.cells #[.int .i64 op, .int .i64 A, .int .i64 B, .int .u64 K, lab] 33))
  have HCK := Lib.hid (h.keep (below_new w (.cells #[.int .i64 op, .int .i64 A, .int .i64 B, .int .u64 K, lab] 33)))
  have HX := Lib.hid (heap_new w (.cells #[.int .i64 op, .int .i64 A, .int .i64 B, .int .u64 K, lab] 33))
  have HSN := Lib.hid (Ins.psane_any (x := ⟨op, A, B, K, LL⟩) (o := lab) HL0.out.sl hu HKT.out)
  rw [hs] at HSN
  rw [show Ins.iv ⟨op, A, B, K, LL⟩ lab = .agg #[.int .i64 op, .int .i64 A, .int .i64 B, .int .u64 K, lab] from rfl] at HSN
  have HKD := Lib.hid (fun W (hW : Ins.KTab W) => Ins.kind_any op W hW)
  rw [hk] at HKD
  clear h hb hf hl hu hT hA hk hs
  obtain ⟨b0, b1, b2, b3, b4⟩ : _ ∧ _ ∧ _ ∧ _ ∧ _ := ⟨(cells_at HX.out 0).1, (cells_at HX.out 1).1, (cells_at HX.out 2).1, (cells_at HX.out 3).1, (cells_at HX.out 4).1⟩
  simp only [List.getElem?_toArray, List.getElem?_cons_zero, List.getElem?_cons_succ] at b0 b1 b2 b3 b4
  go_enter Tryz.func27, Tryz.ntmps27
  go_wp2_with fail
  clear b0 b1 b2 b3 b4
  generalize w.alloc (.cells #[.int .i64 op, .int .i64 A, .int .i64 B, .int .u64 K, lab] 33) = u0 at *
  obtain ⟨y, hy⟩ : ∃ y, w.heap.size = y := ⟨_, rfl⟩
  rw [hy] at HX
  simp only [hy]
  clear hy
  refine HSN.out.mono ?_
  rintro e w1 ⟨rfl, hb⟩
  have HX1 := Lib.hid (blk HX.out hb)
  have HDw := Lib.hid (hb.trans ((below_drew1 w1).mono hb.size))
  have HCF := Lib.hid (HCK.out.keep HDw.out)
  have HLF := Lib.hid (HL0.out.keep HDw.out)
  have HTF := Lib.hid (HAT.out.keep HDw.out)
  have HKF := Lib.hid (HKD.out w1.drew (HKT.out.keep HDw.out))
  have HSF := Lib.hid (stepOf_2 w1.drew)
  have HBF := Lib.hid (HBT.out.trans (But.of_below HDw.out))
  obtain ⟨b0, b1, b2, b3, b4⟩ : _ ∧ _ ∧ _ ∧ _ ∧ _ := ⟨(cells_at HX1.out 0).1, (cells_at HX1.out 1).1, (cells_at HX1.out 2).1, (cells_at HX1.out 3).1, (cells_at HX1.out 4).1⟩
  simp only [List.getElem?_toArray, List.getElem?_cons_zero, List.getElem?_cons_succ] at b0 b1 b2 b3 b4
  clear hb HSN
  go_wp2_with fail
  go_region_law (first
    | (go_simp; go_at_call 61; (with_reducible refine Calls.mono HKF.out ?_); rintro e w2 ⟨rfl, hw2⟩; obtain rfl := hw2)
    | (go_simp; go_at_call 60; (with_reducible refine Calls.mono HSF.out ?_); rintro e w3 ⟨rfl, hw3⟩; obtain rfl := hw3)
    | (go_simp; go_at_call 94; refine Calls.mono (block_ck HCF.out HB0.out HA2.out HO2.out) ?_; rintro e w4 ⟨rfl, hc, hbt⟩; have HBT4 := Lib.hid (HBF.out.trans hbt); have HCK4 := Lib.hid hc; clear hc hbt))
  all_goals (
    clear b0 b1 b2 b3 b4
    go_wp2_with fail
    exact bodyPost_end (v := .tuple #[]) (by simp [results, Tryz.results27, go_sem]) rfl ⟨rfl, HCK4.out, HBT4.out⟩)
end Go.Proofs.YtlappkflnlbfcaaGreatDoor.Chk
end

section
/- An instruction, of kind 3: walked (gen_cktake.py). -/
namespace Go.Proofs.YtlappkflnlbfcaaGreatDoor.Chk
open Go.RowKit Row9 Stk
set_option maxRecDepth 100000
set_option maxHeartbeats 8000000
set_option linter.unusedVariables false
theorem take_3 {w : World} {k : Nat} {V : EV} {E : EnvP} {s : Stk} {op A B K : Int} {LL : List Int} {lab : Value} (h : Cx w k V E (.ok s)) (hb : Bd (.ok s) 300000) (hf : FnBd E) (hl : LabAt w k lab LL) (hu : Ints.u64R K) (hT : Ins.KTab w) (hA : Ins.ATab w) (hk : Ins.kd op = 3) (hs : Ins.saneI ⟨op, A, B, K, LL⟩ = true) : Calls Tryz.prog 27 #[.pointer (some ⟨k, 0, none⟩), .agg #[.int .i64 op, .int .i64 A, .int .i64 B, .int .u64 K, lab]] w (CkEnds w k V E (indexR E op A s) (.tuple #[])) := by
  have HWA : Hid (w64 A) := by
    have := hs
    rw [Ins.saneI_eq, hk, Ins.saneK_3] at this
    simp only [Bool.and_eq_true] at this
    have := this.1
    unfold Ins.okN at this
    simp only [Bool.and_eq_true, decide_eq_true_eq] at this
    exact ⟨by omega, by omega⟩
  have HB0 := Lib.hid hb
  have HFB := Lib.hid hf
  have HKQ := Lib.hid hk
  have HL0 := Lib.hid (hl.keep (below_new w (.cells #[.int .i64 op, .int .i64 A, .int .i64 B, .int .u64 K, lab] 33)))
  have HKT := Lib.hid (hT.keep (below_new w (.cells #[.int .i64 op, .int .i64 A, .int .i64 B, .int .u64 K, lab] 33)))
  have HAT := Lib.hid (hA.keep (below_new w (.cells #[.int .i64 op, .int .i64 A, .int .i64 B, .int .u64 K, lab] 33)))
  have HBT : Hid (But k w (w.alloc (.cells #[.int .i64 op, .int .i64 A, .int .i64 B, .int .u64 K, lab] 33))) := But.of_below (below_new w (.cells #[.int .i64 op, .int .i64 A, .int .i64 B, .int .u64 K, lab] 33))
  have HCK := Lib.hid (h.keep (below_new w (.cells #[.int .i64 op, .int .i64 A, .int .i64 B, .int .u64 K, lab] 33)))
  have HX := Lib.hid (heap_new w (.cells #[.int .i64 op, .int .i64 A, .int .i64 B, .int .u64 K, lab] 33))
  have HSN := Lib.hid (Ins.psane_any (x := ⟨op, A, B, K, LL⟩) (o := lab) HL0.out.sl hu HKT.out)
  rw [hs] at HSN
  rw [show Ins.iv ⟨op, A, B, K, LL⟩ lab = .agg #[.int .i64 op, .int .i64 A, .int .i64 B, .int .u64 K, lab] from rfl] at HSN
  have HKD := Lib.hid (fun W (hW : Ins.KTab W) => Ins.kind_any op W hW)
  rw [hk] at HKD
  clear h hb hf hl hu hT hA hk hs
  obtain ⟨b0, b1, b2, b3, b4⟩ : _ ∧ _ ∧ _ ∧ _ ∧ _ := ⟨(cells_at HX.out 0).1, (cells_at HX.out 1).1, (cells_at HX.out 2).1, (cells_at HX.out 3).1, (cells_at HX.out 4).1⟩
  simp only [List.getElem?_toArray, List.getElem?_cons_zero, List.getElem?_cons_succ] at b0 b1 b2 b3 b4
  go_enter Tryz.func27, Tryz.ntmps27
  go_wp2_with fail
  clear b0 b1 b2 b3 b4
  generalize w.alloc (.cells #[.int .i64 op, .int .i64 A, .int .i64 B, .int .u64 K, lab] 33) = u0 at *
  obtain ⟨y, hy⟩ : ∃ y, w.heap.size = y := ⟨_, rfl⟩
  rw [hy] at HX
  simp only [hy]
  clear hy
  refine HSN.out.mono ?_
  rintro e w1 ⟨rfl, hb⟩
  have HX1 := Lib.hid (blk HX.out hb)
  have HDw := Lib.hid (hb.trans ((below_drew1 w1).mono hb.size))
  have HCF := Lib.hid (HCK.out.keep HDw.out)
  have HLF := Lib.hid (HL0.out.keep HDw.out)
  have HTF := Lib.hid (HAT.out.keep HDw.out)
  have HKF := Lib.hid (HKD.out w1.drew (HKT.out.keep HDw.out))
  have HSF := Lib.hid (stepOf_3 w1.drew)
  have HBF := Lib.hid (HBT.out.trans (But.of_below HDw.out))
  obtain ⟨b0, b1, b2, b3, b4⟩ : _ ∧ _ ∧ _ ∧ _ ∧ _ := ⟨(cells_at HX1.out 0).1, (cells_at HX1.out 1).1, (cells_at HX1.out 2).1, (cells_at HX1.out 3).1, (cells_at HX1.out 4).1⟩
  simp only [List.getElem?_toArray, List.getElem?_cons_zero, List.getElem?_cons_succ] at b0 b1 b2 b3 b4
  clear hb HSN
  go_wp2_with fail
  go_region_law (first
    | (go_simp; go_at_call 61; (with_reducible refine Calls.mono HKF.out ?_); rintro e w2 ⟨rfl, hw2⟩; obtain rfl := hw2)
    | (go_simp; go_at_call 60; (with_reducible refine Calls.mono HSF.out ?_); rintro e w3 ⟨rfl, hw3⟩; obtain rfl := hw3)
    | (go_simp; go_at_call 95; refine Calls.mono (index_ck HCF.out HB0.out HFB.out HWA.out HKQ.out) ?_; rintro e w4 ⟨rfl, hc, hbt⟩; have HBT4 := Lib.hid (HBF.out.trans hbt); have HCK4 := Lib.hid hc; clear hc hbt))
  all_goals (
    clear b0 b1 b2 b3 b4
    go_wp2_with fail
    exact bodyPost_end (v := .tuple #[]) (by simp [results, Tryz.results27, go_sem]) rfl ⟨rfl, HCK4.out, HBT4.out⟩)
end Go.Proofs.YtlappkflnlbfcaaGreatDoor.Chk
end

section
/- An instruction, of kind 4: walked (gen_cktake.py). -/
namespace Go.Proofs.YtlappkflnlbfcaaGreatDoor.Chk
open Go.RowKit Row9 Stk
set_option maxRecDepth 100000
set_option maxHeartbeats 8000000
set_option linter.unusedVariables false
theorem take_4 {w : World} {k : Nat} {V : EV} {E : EnvP} {s : Stk} {op A B K : Int} {LL : List Int} {lab : Value} (h : Cx w k V E (.ok s)) (hb : Bd (.ok s) 300000) (hf : FnBd E) (hl : LabAt w k lab LL) (hu : Ints.u64R K) (hT : Ins.KTab w) (hA : Ins.ATab w) (hk : Ins.kd op = 4) (hs : Ins.saneI ⟨op, A, B, K, LL⟩ = true) : Calls Tryz.prog 27 #[.pointer (some ⟨k, 0, none⟩), .agg #[.int .i64 op, .int .i64 A, .int .i64 B, .int .u64 K, lab]] w (CkEnds w k V E (tableR A LL s) (.tuple #[])) := by
  have hs4 : (LL.all Ins.okN = true ∧ (LL.length : Int) ≤ 64) ∧ Ins.okN A = true := by
    have := hs
    rw [Ins.saneI_eq, hk, Ins.saneK_4] at this
    simp only [Bool.and_eq_true, decide_eq_true_eq] at this
    exact this.1
  have HWA : Hid (w64 A) := by
    have := hs4.2
    unfold Ins.okN at this
    simp only [Bool.and_eq_true, decide_eq_true_eq] at this
    exact ⟨by omega, by omega⟩
  have HN4 : Hid (LL.length ≤ 1000000) := Lib.hid (by have := hs4.1.2; omega)
  have HW4 : Hid (∀ x ∈ LL, w64 x) := fun x hx => by
    have := List.all_eq_true.1 hs4.1.1 x hx
    unfold Ins.okN at this
    simp only [Bool.and_eq_true, decide_eq_true_eq] at this
    exact ⟨by omega, by omega⟩
  clear hs4
  have HB0 := Lib.hid hb
  have HFB := Lib.hid hf
  have HKQ := Lib.hid hk
  have HL0 := Lib.hid (hl.keep (below_new w (.cells #[.int .i64 op, .int .i64 A, .int .i64 B, .int .u64 K, lab] 33)))
  have HKT := Lib.hid (hT.keep (below_new w (.cells #[.int .i64 op, .int .i64 A, .int .i64 B, .int .u64 K, lab] 33)))
  have HAT := Lib.hid (hA.keep (below_new w (.cells #[.int .i64 op, .int .i64 A, .int .i64 B, .int .u64 K, lab] 33)))
  have HBT : Hid (But k w (w.alloc (.cells #[.int .i64 op, .int .i64 A, .int .i64 B, .int .u64 K, lab] 33))) := But.of_below (below_new w (.cells #[.int .i64 op, .int .i64 A, .int .i64 B, .int .u64 K, lab] 33))
  have HCK := Lib.hid (h.keep (below_new w (.cells #[.int .i64 op, .int .i64 A, .int .i64 B, .int .u64 K, lab] 33)))
  have HX := Lib.hid (heap_new w (.cells #[.int .i64 op, .int .i64 A, .int .i64 B, .int .u64 K, lab] 33))
  have HSN := Lib.hid (Ins.psane_any (x := ⟨op, A, B, K, LL⟩) (o := lab) HL0.out.sl hu HKT.out)
  rw [hs] at HSN
  rw [show Ins.iv ⟨op, A, B, K, LL⟩ lab = .agg #[.int .i64 op, .int .i64 A, .int .i64 B, .int .u64 K, lab] from rfl] at HSN
  have HKD := Lib.hid (fun W (hW : Ins.KTab W) => Ins.kind_any op W hW)
  rw [hk] at HKD
  clear h hb hf hl hu hT hA hk hs
  obtain ⟨b0, b1, b2, b3, b4⟩ : _ ∧ _ ∧ _ ∧ _ ∧ _ := ⟨(cells_at HX.out 0).1, (cells_at HX.out 1).1, (cells_at HX.out 2).1, (cells_at HX.out 3).1, (cells_at HX.out 4).1⟩
  simp only [List.getElem?_toArray, List.getElem?_cons_zero, List.getElem?_cons_succ] at b0 b1 b2 b3 b4
  go_enter Tryz.func27, Tryz.ntmps27
  go_wp2_with fail
  clear b0 b1 b2 b3 b4
  generalize w.alloc (.cells #[.int .i64 op, .int .i64 A, .int .i64 B, .int .u64 K, lab] 33) = u0 at *
  obtain ⟨y, hy⟩ : ∃ y, w.heap.size = y := ⟨_, rfl⟩
  rw [hy] at HX
  simp only [hy]
  clear hy
  refine HSN.out.mono ?_
  rintro e w1 ⟨rfl, hb⟩
  have HX1 := Lib.hid (blk HX.out hb)
  have HDw := Lib.hid (hb.trans ((below_drew1 w1).mono hb.size))
  have HCF := Lib.hid (HCK.out.keep HDw.out)
  have HLF := Lib.hid (HL0.out.keep HDw.out)
  have HTF := Lib.hid (HAT.out.keep HDw.out)
  have HKF := Lib.hid (HKD.out w1.drew (HKT.out.keep HDw.out))
  have HSF := Lib.hid (stepOf_4 w1.drew)
  have HBF := Lib.hid (HBT.out.trans (But.of_below HDw.out))
  obtain ⟨b0, b1, b2, b3, b4⟩ : _ ∧ _ ∧ _ ∧ _ ∧ _ := ⟨(cells_at HX1.out 0).1, (cells_at HX1.out 1).1, (cells_at HX1.out 2).1, (cells_at HX1.out 3).1, (cells_at HX1.out 4).1⟩
  simp only [List.getElem?_toArray, List.getElem?_cons_zero, List.getElem?_cons_succ] at b0 b1 b2 b3 b4
  clear hb HSN
  go_wp2_with fail
  go_region_law (first
    | (go_simp; go_at_call 61; (with_reducible refine Calls.mono HKF.out ?_); rintro e w2 ⟨rfl, hw2⟩; obtain rfl := hw2)
    | (go_simp; go_at_call 60; (with_reducible refine Calls.mono HSF.out ?_); rintro e w3 ⟨rfl, hw3⟩; obtain rfl := hw3)
    | (go_simp; go_at_call 96; refine Calls.mono (brTable_ck HCF.out HB0.out HWA.out HLF.out HN4.out HW4.out) ?_; rintro e w4 ⟨rfl, hc, hbt⟩; have HBT4 := Lib.hid (HBF.out.trans hbt); have HCK4 := Lib.hid hc; clear hc hbt))
  all_goals (
    clear b0 b1 b2 b3 b4
    go_wp2_with fail
    exact bodyPost_end (v := .tuple #[]) (by simp [results, Tryz.results27, go_sem]) rfl ⟨rfl, HCK4.out, HBT4.out⟩)
end Go.Proofs.YtlappkflnlbfcaaGreatDoor.Chk
end

section
/- An instruction, of kind 5: walked (gen_cktake.py). -/
namespace Go.Proofs.YtlappkflnlbfcaaGreatDoor.Chk
open Go.RowKit Row9 Stk
set_option maxRecDepth 100000
set_option maxHeartbeats 8000000
set_option linter.unusedVariables false
theorem take_5 {w : World} {k : Nat} {V : EV} {E : EnvP} {s : Stk} {op A B K : Int} {LL : List Int} {lab : Value} (h : Cx w k V E (.ok s)) (hb : Bd (.ok s) 300000) (hf : FnBd E) (hl : LabAt w k lab LL) (hu : Ints.u64R K) (hT : Ins.KTab w) (hA : Ins.ATab w) (hk : Ins.kd op = 5) (hs : Ins.saneI ⟨op, A, B, K, LL⟩ = true) : Calls Tryz.prog 27 #[.pointer (some ⟨k, 0, none⟩), .agg #[.int .i64 op, .int .i64 A, .int .i64 B, .int .u64 K, lab]] w (CkEnds w k V E (callIR E A s) (.tuple #[])) := by
  have HWA : Hid (w64 A) := by
    have := hs
    rw [Ins.saneI_eq, hk, Ins.saneK_5] at this
    simp only [Bool.and_eq_true] at this
    have := this.1
    unfold Ins.okN at this
    simp only [Bool.and_eq_true, decide_eq_true_eq] at this
    exact ⟨by omega, by omega⟩
  have HB0 := Lib.hid hb
  have HFB := Lib.hid hf
  have HKQ := Lib.hid hk
  have HL0 := Lib.hid (hl.keep (below_new w (.cells #[.int .i64 op, .int .i64 A, .int .i64 B, .int .u64 K, lab] 33)))
  have HKT := Lib.hid (hT.keep (below_new w (.cells #[.int .i64 op, .int .i64 A, .int .i64 B, .int .u64 K, lab] 33)))
  have HAT := Lib.hid (hA.keep (below_new w (.cells #[.int .i64 op, .int .i64 A, .int .i64 B, .int .u64 K, lab] 33)))
  have HBT : Hid (But k w (w.alloc (.cells #[.int .i64 op, .int .i64 A, .int .i64 B, .int .u64 K, lab] 33))) := But.of_below (below_new w (.cells #[.int .i64 op, .int .i64 A, .int .i64 B, .int .u64 K, lab] 33))
  have HCK := Lib.hid (h.keep (below_new w (.cells #[.int .i64 op, .int .i64 A, .int .i64 B, .int .u64 K, lab] 33)))
  have HX := Lib.hid (heap_new w (.cells #[.int .i64 op, .int .i64 A, .int .i64 B, .int .u64 K, lab] 33))
  have HSN := Lib.hid (Ins.psane_any (x := ⟨op, A, B, K, LL⟩) (o := lab) HL0.out.sl hu HKT.out)
  rw [hs] at HSN
  rw [show Ins.iv ⟨op, A, B, K, LL⟩ lab = .agg #[.int .i64 op, .int .i64 A, .int .i64 B, .int .u64 K, lab] from rfl] at HSN
  have HKD := Lib.hid (fun W (hW : Ins.KTab W) => Ins.kind_any op W hW)
  rw [hk] at HKD
  clear h hb hf hl hu hT hA hk hs
  obtain ⟨b0, b1, b2, b3, b4⟩ : _ ∧ _ ∧ _ ∧ _ ∧ _ := ⟨(cells_at HX.out 0).1, (cells_at HX.out 1).1, (cells_at HX.out 2).1, (cells_at HX.out 3).1, (cells_at HX.out 4).1⟩
  simp only [List.getElem?_toArray, List.getElem?_cons_zero, List.getElem?_cons_succ] at b0 b1 b2 b3 b4
  go_enter Tryz.func27, Tryz.ntmps27
  go_wp2_with fail
  clear b0 b1 b2 b3 b4
  generalize w.alloc (.cells #[.int .i64 op, .int .i64 A, .int .i64 B, .int .u64 K, lab] 33) = u0 at *
  obtain ⟨y, hy⟩ : ∃ y, w.heap.size = y := ⟨_, rfl⟩
  rw [hy] at HX
  simp only [hy]
  clear hy
  refine HSN.out.mono ?_
  rintro e w1 ⟨rfl, hb⟩
  have HX1 := Lib.hid (blk HX.out hb)
  have HDw := Lib.hid (hb.trans ((below_drew1 w1).mono hb.size))
  have HCF := Lib.hid (HCK.out.keep HDw.out)
  have HLF := Lib.hid (HL0.out.keep HDw.out)
  have HTF := Lib.hid (HAT.out.keep HDw.out)
  have HKF := Lib.hid (HKD.out w1.drew (HKT.out.keep HDw.out))
  have HSF := Lib.hid (stepOf_5 w1.drew)
  have HBF := Lib.hid (HBT.out.trans (But.of_below HDw.out))
  obtain ⟨b0, b1, b2, b3, b4⟩ : _ ∧ _ ∧ _ ∧ _ ∧ _ := ⟨(cells_at HX1.out 0).1, (cells_at HX1.out 1).1, (cells_at HX1.out 2).1, (cells_at HX1.out 3).1, (cells_at HX1.out 4).1⟩
  simp only [List.getElem?_toArray, List.getElem?_cons_zero, List.getElem?_cons_succ] at b0 b1 b2 b3 b4
  clear hb HSN
  go_wp2_with fail
  go_region_law (first
    | (go_simp; go_at_call 61; (with_reducible refine Calls.mono HKF.out ?_); rintro e w2 ⟨rfl, hw2⟩; obtain rfl := hw2)
    | (go_simp; go_at_call 60; (with_reducible refine Calls.mono HSF.out ?_); rintro e w3 ⟨rfl, hw3⟩; obtain rfl := hw3)
    | (go_simp; go_at_call 97; refine Calls.mono (callInd_ck HCF.out HB0.out HFB.out HWA.out) ?_; rintro e w4 ⟨rfl, hc, hbt⟩; have HBT4 := Lib.hid (HBF.out.trans hbt); have HCK4 := Lib.hid hc; clear hc hbt))
  all_goals (
    clear b0 b1 b2 b3 b4
    go_wp2_with fail
    exact bodyPost_end (v := .tuple #[]) (by simp [results, Tryz.results27, go_sem]) rfl ⟨rfl, HCK4.out, HBT4.out⟩)
end Go.Proofs.YtlappkflnlbfcaaGreatDoor.Chk
end

section
/- An instruction, of kind 6: walked (gen_cktake.py). -/
namespace Go.Proofs.YtlappkflnlbfcaaGreatDoor.Chk
open Go.RowKit Row9 Stk
set_option maxRecDepth 100000
set_option maxHeartbeats 8000000
set_option linter.unusedVariables false
theorem take_6 {w : World} {k : Nat} {V : EV} {E : EnvP} {s : Stk} {op A B K : Int} {LL : List Int} {lab : Value} (h : Cx w k V E (.ok s)) (hb : Bd (.ok s) 300000) (hf : FnBd E) (hl : LabAt w k lab LL) (hu : Ints.u64R K) (hT : Ins.KTab w) (hA : Ins.ATab w) (hk : Ins.kd op = 6) (hs : Ins.saneI ⟨op, A, B, K, LL⟩ = true) : Calls Tryz.prog 27 #[.pointer (some ⟨k, 0, none⟩), .agg #[.int .i64 op, .int .i64 A, .int .i64 B, .int .u64 K, lab]] w (CkEnds w k V E (accessR E op A s) (.tuple #[])) := by
  have HB0 := Lib.hid hb
  have HFB := Lib.hid hf
  have HKQ := Lib.hid hk
  have HL0 := Lib.hid (hl.keep (below_new w (.cells #[.int .i64 op, .int .i64 A, .int .i64 B, .int .u64 K, lab] 33)))
  have HKT := Lib.hid (hT.keep (below_new w (.cells #[.int .i64 op, .int .i64 A, .int .i64 B, .int .u64 K, lab] 33)))
  have HAT := Lib.hid (hA.keep (below_new w (.cells #[.int .i64 op, .int .i64 A, .int .i64 B, .int .u64 K, lab] 33)))
  have HBT : Hid (But k w (w.alloc (.cells #[.int .i64 op, .int .i64 A, .int .i64 B, .int .u64 K, lab] 33))) := But.of_below (below_new w (.cells #[.int .i64 op, .int .i64 A, .int .i64 B, .int .u64 K, lab] 33))
  have HCK := Lib.hid (h.keep (below_new w (.cells #[.int .i64 op, .int .i64 A, .int .i64 B, .int .u64 K, lab] 33)))
  have HX := Lib.hid (heap_new w (.cells #[.int .i64 op, .int .i64 A, .int .i64 B, .int .u64 K, lab] 33))
  have HSN := Lib.hid (Ins.psane_any (x := ⟨op, A, B, K, LL⟩) (o := lab) HL0.out.sl hu HKT.out)
  rw [hs] at HSN
  rw [show Ins.iv ⟨op, A, B, K, LL⟩ lab = .agg #[.int .i64 op, .int .i64 A, .int .i64 B, .int .u64 K, lab] from rfl] at HSN
  have HKD := Lib.hid (fun W (hW : Ins.KTab W) => Ins.kind_any op W hW)
  rw [hk] at HKD
  clear h hb hf hl hu hT hA hk hs
  obtain ⟨b0, b1, b2, b3, b4⟩ : _ ∧ _ ∧ _ ∧ _ ∧ _ := ⟨(cells_at HX.out 0).1, (cells_at HX.out 1).1, (cells_at HX.out 2).1, (cells_at HX.out 3).1, (cells_at HX.out 4).1⟩
  simp only [List.getElem?_toArray, List.getElem?_cons_zero, List.getElem?_cons_succ] at b0 b1 b2 b3 b4
  go_enter Tryz.func27, Tryz.ntmps27
  go_wp2_with fail
  clear b0 b1 b2 b3 b4
  generalize w.alloc (.cells #[.int .i64 op, .int .i64 A, .int .i64 B, .int .u64 K, lab] 33) = u0 at *
  obtain ⟨y, hy⟩ : ∃ y, w.heap.size = y := ⟨_, rfl⟩
  rw [hy] at HX
  simp only [hy]
  clear hy
  refine HSN.out.mono ?_
  rintro e w1 ⟨rfl, hb⟩
  have HX1 := Lib.hid (blk HX.out hb)
  have HDw := Lib.hid (hb.trans ((below_drew1 w1).mono hb.size))
  have HCF := Lib.hid (HCK.out.keep HDw.out)
  have HLF := Lib.hid (HL0.out.keep HDw.out)
  have HTF := Lib.hid (HAT.out.keep HDw.out)
  have HKF := Lib.hid (HKD.out w1.drew (HKT.out.keep HDw.out))
  have HSF := Lib.hid (stepOf_6 w1.drew)
  have HBF := Lib.hid (HBT.out.trans (But.of_below HDw.out))
  obtain ⟨b0, b1, b2, b3, b4⟩ : _ ∧ _ ∧ _ ∧ _ ∧ _ := ⟨(cells_at HX1.out 0).1, (cells_at HX1.out 1).1, (cells_at HX1.out 2).1, (cells_at HX1.out 3).1, (cells_at HX1.out 4).1⟩
  simp only [List.getElem?_toArray, List.getElem?_cons_zero, List.getElem?_cons_succ] at b0 b1 b2 b3 b4
  clear hb HSN
  go_wp2_with fail
  go_region_law (first
    | (go_simp; go_at_call 61; (with_reducible refine Calls.mono HKF.out ?_); rintro e w2 ⟨rfl, hw2⟩; obtain rfl := hw2)
    | (go_simp; go_at_call 60; (with_reducible refine Calls.mono HSF.out ?_); rintro e w3 ⟨rfl, hw3⟩; obtain rfl := hw3)
    | (go_simp; go_at_call 98; refine Calls.mono (access_ck HCF.out HB0.out HKQ.out HTF.out) ?_; rintro e w4 ⟨rfl, hc, hbt⟩; have HBT4 := Lib.hid (HBF.out.trans hbt); have HCK4 := Lib.hid hc; clear hc hbt))
  all_goals (
    clear b0 b1 b2 b3 b4
    go_wp2_with fail
    exact bodyPost_end (v := .tuple #[]) (by simp [results, Tryz.results27, go_sem]) rfl ⟨rfl, HCK4.out, HBT4.out⟩)
end Go.Proofs.YtlappkflnlbfcaaGreatDoor.Chk
end

section
/- An instruction, of kind 7: walked (gen_cktake.py). -/
namespace Go.Proofs.YtlappkflnlbfcaaGreatDoor.Chk
open Go.RowKit Row9 Stk
set_option maxRecDepth 100000
set_option maxHeartbeats 8000000
set_option linter.unusedVariables false
theorem take_7 {w : World} {k : Nat} {V : EV} {E : EnvP} {s : Stk} {op A B K : Int} {LL : List Int} {lab : Value} (h : Cx w k V E (.ok s)) (hb : Bd (.ok s) 300000) (hf : FnBd E) (hl : LabAt w k lab LL) (hu : Ints.u64R K) (hT : Ins.KTab w) (hA : Ins.ATab w) (hk : Ins.kd op = 7) (hs : Ins.saneI ⟨op, A, B, K, LL⟩ = true) : Calls Tryz.prog 27 #[.pointer (some ⟨k, 0, none⟩), .agg #[.int .i64 op, .int .i64 A, .int .i64 B, .int .u64 K, lab]] w (CkEnds w k V E (memR E op s) (.tuple #[])) := by
  have HB0 := Lib.hid hb
  have HFB := Lib.hid hf
  have HKQ := Lib.hid hk
  have HL0 := Lib.hid (hl.keep (below_new w (.cells #[.int .i64 op, .int .i64 A, .int .i64 B, .int .u64 K, lab] 33)))
  have HKT := Lib.hid (hT.keep (below_new w (.cells #[.int .i64 op, .int .i64 A, .int .i64 B, .int .u64 K, lab] 33)))
  have HAT := Lib.hid (hA.keep (below_new w (.cells #[.int .i64 op, .int .i64 A, .int .i64 B, .int .u64 K, lab] 33)))
  have HBT : Hid (But k w (w.alloc (.cells #[.int .i64 op, .int .i64 A, .int .i64 B, .int .u64 K, lab] 33))) := But.of_below (below_new w (.cells #[.int .i64 op, .int .i64 A, .int .i64 B, .int .u64 K, lab] 33))
  have HCK := Lib.hid (h.keep (below_new w (.cells #[.int .i64 op, .int .i64 A, .int .i64 B, .int .u64 K, lab] 33)))
  have HX := Lib.hid (heap_new w (.cells #[.int .i64 op, .int .i64 A, .int .i64 B, .int .u64 K, lab] 33))
  have HSN := Lib.hid (Ins.psane_any (x := ⟨op, A, B, K, LL⟩) (o := lab) HL0.out.sl hu HKT.out)
  rw [hs] at HSN
  rw [show Ins.iv ⟨op, A, B, K, LL⟩ lab = .agg #[.int .i64 op, .int .i64 A, .int .i64 B, .int .u64 K, lab] from rfl] at HSN
  have HKD := Lib.hid (fun W (hW : Ins.KTab W) => Ins.kind_any op W hW)
  rw [hk] at HKD
  clear h hb hf hl hu hT hA hk hs
  obtain ⟨b0, b1, b2, b3, b4⟩ : _ ∧ _ ∧ _ ∧ _ ∧ _ := ⟨(cells_at HX.out 0).1, (cells_at HX.out 1).1, (cells_at HX.out 2).1, (cells_at HX.out 3).1, (cells_at HX.out 4).1⟩
  simp only [List.getElem?_toArray, List.getElem?_cons_zero, List.getElem?_cons_succ] at b0 b1 b2 b3 b4
  go_enter Tryz.func27, Tryz.ntmps27
  go_wp2_with fail
  clear b0 b1 b2 b3 b4
  generalize w.alloc (.cells #[.int .i64 op, .int .i64 A, .int .i64 B, .int .u64 K, lab] 33) = u0 at *
  obtain ⟨y, hy⟩ : ∃ y, w.heap.size = y := ⟨_, rfl⟩
  rw [hy] at HX
  simp only [hy]
  clear hy
  refine HSN.out.mono ?_
  rintro e w1 ⟨rfl, hb⟩
  have HX1 := Lib.hid (blk HX.out hb)
  have HDw := Lib.hid (hb.trans ((below_drew1 w1).mono hb.size))
  have HCF := Lib.hid (HCK.out.keep HDw.out)
  have HLF := Lib.hid (HL0.out.keep HDw.out)
  have HTF := Lib.hid (HAT.out.keep HDw.out)
  have HKF := Lib.hid (HKD.out w1.drew (HKT.out.keep HDw.out))
  have HSF := Lib.hid (stepOf_7 w1.drew)
  have HBF := Lib.hid (HBT.out.trans (But.of_below HDw.out))
  obtain ⟨b0, b1, b2, b3, b4⟩ : _ ∧ _ ∧ _ ∧ _ ∧ _ := ⟨(cells_at HX1.out 0).1, (cells_at HX1.out 1).1, (cells_at HX1.out 2).1, (cells_at HX1.out 3).1, (cells_at HX1.out 4).1⟩
  simp only [List.getElem?_toArray, List.getElem?_cons_zero, List.getElem?_cons_succ] at b0 b1 b2 b3 b4
  clear hb HSN
  go_wp2_with fail
  go_region_law (first
    | (go_simp; go_at_call 61; (with_reducible refine Calls.mono HKF.out ?_); rintro e w2 ⟨rfl, hw2⟩; obtain rfl := hw2)
    | (go_simp; go_at_call 60; (with_reducible refine Calls.mono HSF.out ?_); rintro e w3 ⟨rfl, hw3⟩; obtain rfl := hw3)
    | (go_simp; go_at_call 99; refine Calls.mono (memory_ck HCF.out HB0.out) ?_; rintro e w4 ⟨rfl, hc, hbt⟩; have HBT4 := Lib.hid (HBF.out.trans hbt); have HCK4 := Lib.hid hc; clear hc hbt))
  all_goals (
    clear b0 b1 b2 b3 b4
    go_wp2_with fail
    exact bodyPost_end (v := .tuple #[]) (by simp [results, Tryz.results27, go_sem]) rfl ⟨rfl, HCK4.out, HBT4.out⟩)
end Go.Proofs.YtlappkflnlbfcaaGreatDoor.Chk
end

section
/- An instruction, of kind 8: walked (gen_cktake.py). -/
namespace Go.Proofs.YtlappkflnlbfcaaGreatDoor.Chk
open Go.RowKit Row9 Stk
set_option maxRecDepth 100000
set_option maxHeartbeats 8000000
set_option linter.unusedVariables false
theorem take_8 {w : World} {k : Nat} {V : EV} {E : EnvP} {s : Stk} {op A B K : Int} {LL : List Int} {lab : Value} (h : Cx w k V E (.ok s)) (hb : Bd (.ok s) 300000) (hf : FnBd E) (hl : LabAt w k lab LL) (hu : Ints.u64R K) (hT : Ins.KTab w) (hA : Ins.ATab w) (hk : Ins.kd op = 8) (hs : Ins.saneI ⟨op, A, B, K, LL⟩ = true) : Calls Tryz.prog 27 #[.pointer (some ⟨k, 0, none⟩), .agg #[.int .i64 op, .int .i64 A, .int .i64 B, .int .u64 K, lab]] w (CkEnds w k V E (pushR [127] (.ok s)) (.tuple #[])) := by
  have HB0 := Lib.hid hb
  have HFB := Lib.hid hf
  have HKQ := Lib.hid hk
  have HL0 := Lib.hid (hl.keep (below_new w (.cells #[.int .i64 op, .int .i64 A, .int .i64 B, .int .u64 K, lab] 33)))
  have HKT := Lib.hid (hT.keep (below_new w (.cells #[.int .i64 op, .int .i64 A, .int .i64 B, .int .u64 K, lab] 33)))
  have HAT := Lib.hid (hA.keep (below_new w (.cells #[.int .i64 op, .int .i64 A, .int .i64 B, .int .u64 K, lab] 33)))
  have HBT : Hid (But k w (w.alloc (.cells #[.int .i64 op, .int .i64 A, .int .i64 B, .int .u64 K, lab] 33))) := But.of_below (below_new w (.cells #[.int .i64 op, .int .i64 A, .int .i64 B, .int .u64 K, lab] 33))
  have HCK := Lib.hid (h.keep (below_new w (.cells #[.int .i64 op, .int .i64 A, .int .i64 B, .int .u64 K, lab] 33)))
  have HX := Lib.hid (heap_new w (.cells #[.int .i64 op, .int .i64 A, .int .i64 B, .int .u64 K, lab] 33))
  have HSN := Lib.hid (Ins.psane_any (x := ⟨op, A, B, K, LL⟩) (o := lab) HL0.out.sl hu HKT.out)
  rw [hs] at HSN
  rw [show Ins.iv ⟨op, A, B, K, LL⟩ lab = .agg #[.int .i64 op, .int .i64 A, .int .i64 B, .int .u64 K, lab] from rfl] at HSN
  have HKD := Lib.hid (fun W (hW : Ins.KTab W) => Ins.kind_any op W hW)
  rw [hk] at HKD
  clear h hb hf hl hu hT hA hk hs
  obtain ⟨b0, b1, b2, b3, b4⟩ : _ ∧ _ ∧ _ ∧ _ ∧ _ := ⟨(cells_at HX.out 0).1, (cells_at HX.out 1).1, (cells_at HX.out 2).1, (cells_at HX.out 3).1, (cells_at HX.out 4).1⟩
  simp only [List.getElem?_toArray, List.getElem?_cons_zero, List.getElem?_cons_succ] at b0 b1 b2 b3 b4
  go_enter Tryz.func27, Tryz.ntmps27
  go_wp2_with fail
  clear b0 b1 b2 b3 b4
  generalize w.alloc (.cells #[.int .i64 op, .int .i64 A, .int .i64 B, .int .u64 K, lab] 33) = u0 at *
  obtain ⟨y, hy⟩ : ∃ y, w.heap.size = y := ⟨_, rfl⟩
  rw [hy] at HX
  simp only [hy]
  clear hy
  refine HSN.out.mono ?_
  rintro e w1 ⟨rfl, hb⟩
  have HX1 := Lib.hid (blk HX.out hb)
  have HDw := Lib.hid (hb.trans ((below_drew1 w1).mono hb.size))
  have HCF := Lib.hid (HCK.out.keep HDw.out)
  have HLF := Lib.hid (HL0.out.keep HDw.out)
  have HTF := Lib.hid (HAT.out.keep HDw.out)
  have HKF := Lib.hid (HKD.out w1.drew (HKT.out.keep HDw.out))
  have HSF := Lib.hid (stepOf_8 w1.drew)
  have HBF := Lib.hid (HBT.out.trans (But.of_below HDw.out))
  obtain ⟨b0, b1, b2, b3, b4⟩ : _ ∧ _ ∧ _ ∧ _ ∧ _ := ⟨(cells_at HX1.out 0).1, (cells_at HX1.out 1).1, (cells_at HX1.out 2).1, (cells_at HX1.out 3).1, (cells_at HX1.out 4).1⟩
  simp only [List.getElem?_toArray, List.getElem?_cons_zero, List.getElem?_cons_succ] at b0 b1 b2 b3 b4
  clear hb HSN
  go_wp2_with fail
  go_region_law (first
    | (go_simp; go_at_call 61; (with_reducible refine Calls.mono HKF.out ?_); rintro e w2 ⟨rfl, hw2⟩; obtain rfl := hw2)
    | (go_simp; go_at_call 60; (with_reducible refine Calls.mono HSF.out ?_); rintro e w3 ⟨rfl, hw3⟩; obtain rfl := hw3)
    | (go_simp; go_at_call 100; refine Calls.mono (const32_ck HCF.out HB0.out) ?_; rintro e w4 ⟨rfl, hc, hbt⟩; have HBT4 := Lib.hid (HBF.out.trans hbt); have HCK4 := Lib.hid hc; clear hc hbt))
  all_goals (
    clear b0 b1 b2 b3 b4
    go_wp2_with fail
    exact bodyPost_end (v := .tuple #[]) (by simp [results, Tryz.results27, go_sem]) rfl ⟨rfl, HCK4.out, HBT4.out⟩)
end Go.Proofs.YtlappkflnlbfcaaGreatDoor.Chk
end

section
/- An instruction, of kind 9: walked (gen_cktake.py). -/
namespace Go.Proofs.YtlappkflnlbfcaaGreatDoor.Chk
open Go.RowKit Row9 Stk
set_option maxRecDepth 100000
set_option maxHeartbeats 8000000
set_option linter.unusedVariables false
theorem take_9 {w : World} {k : Nat} {V : EV} {E : EnvP} {s : Stk} {op A B K : Int} {LL : List Int} {lab : Value} (h : Cx w k V E (.ok s)) (hb : Bd (.ok s) 300000) (hf : FnBd E) (hl : LabAt w k lab LL) (hu : Ints.u64R K) (hT : Ins.KTab w) (hA : Ins.ATab w) (hk : Ins.kd op = 9) (hs : Ins.saneI ⟨op, A, B, K, LL⟩ = true) : Calls Tryz.prog 27 #[.pointer (some ⟨k, 0, none⟩), .agg #[.int .i64 op, .int .i64 A, .int .i64 B, .int .u64 K, lab]] w (CkEnds w k V E (pushR [126] (.ok s)) (.tuple #[])) := by
  have HB0 := Lib.hid hb
  have HFB := Lib.hid hf
  have HKQ := Lib.hid hk
  have HL0 := Lib.hid (hl.keep (below_new w (.cells #[.int .i64 op, .int .i64 A, .int .i64 B, .int .u64 K, lab] 33)))
  have HKT := Lib.hid (hT.keep (below_new w (.cells #[.int .i64 op, .int .i64 A, .int .i64 B, .int .u64 K, lab] 33)))
  have HAT := Lib.hid (hA.keep (below_new w (.cells #[.int .i64 op, .int .i64 A, .int .i64 B, .int .u64 K, lab] 33)))
  have HBT : Hid (But k w (w.alloc (.cells #[.int .i64 op, .int .i64 A, .int .i64 B, .int .u64 K, lab] 33))) := But.of_below (below_new w (.cells #[.int .i64 op, .int .i64 A, .int .i64 B, .int .u64 K, lab] 33))
  have HCK := Lib.hid (h.keep (below_new w (.cells #[.int .i64 op, .int .i64 A, .int .i64 B, .int .u64 K, lab] 33)))
  have HX := Lib.hid (heap_new w (.cells #[.int .i64 op, .int .i64 A, .int .i64 B, .int .u64 K, lab] 33))
  have HSN := Lib.hid (Ins.psane_any (x := ⟨op, A, B, K, LL⟩) (o := lab) HL0.out.sl hu HKT.out)
  rw [hs] at HSN
  rw [show Ins.iv ⟨op, A, B, K, LL⟩ lab = .agg #[.int .i64 op, .int .i64 A, .int .i64 B, .int .u64 K, lab] from rfl] at HSN
  have HKD := Lib.hid (fun W (hW : Ins.KTab W) => Ins.kind_any op W hW)
  rw [hk] at HKD
  clear h hb hf hl hu hT hA hk hs
  obtain ⟨b0, b1, b2, b3, b4⟩ : _ ∧ _ ∧ _ ∧ _ ∧ _ := ⟨(cells_at HX.out 0).1, (cells_at HX.out 1).1, (cells_at HX.out 2).1, (cells_at HX.out 3).1, (cells_at HX.out 4).1⟩
  simp only [List.getElem?_toArray, List.getElem?_cons_zero, List.getElem?_cons_succ] at b0 b1 b2 b3 b4
  go_enter Tryz.func27, Tryz.ntmps27
  go_wp2_with fail
  clear b0 b1 b2 b3 b4
  generalize w.alloc (.cells #[.int .i64 op, .int .i64 A, .int .i64 B, .int .u64 K, lab] 33) = u0 at *
  obtain ⟨y, hy⟩ : ∃ y, w.heap.size = y := ⟨_, rfl⟩
  rw [hy] at HX
  simp only [hy]
  clear hy
  refine HSN.out.mono ?_
  rintro e w1 ⟨rfl, hb⟩
  have HX1 := Lib.hid (blk HX.out hb)
  have HDw := Lib.hid (hb.trans ((below_drew1 w1).mono hb.size))
  have HCF := Lib.hid (HCK.out.keep HDw.out)
  have HLF := Lib.hid (HL0.out.keep HDw.out)
  have HTF := Lib.hid (HAT.out.keep HDw.out)
  have HKF := Lib.hid (HKD.out w1.drew (HKT.out.keep HDw.out))
  have HSF := Lib.hid (stepOf_9 w1.drew)
  have HBF := Lib.hid (HBT.out.trans (But.of_below HDw.out))
  obtain ⟨b0, b1, b2, b3, b4⟩ : _ ∧ _ ∧ _ ∧ _ ∧ _ := ⟨(cells_at HX1.out 0).1, (cells_at HX1.out 1).1, (cells_at HX1.out 2).1, (cells_at HX1.out 3).1, (cells_at HX1.out 4).1⟩
  simp only [List.getElem?_toArray, List.getElem?_cons_zero, List.getElem?_cons_succ] at b0 b1 b2 b3 b4
  clear hb HSN
  go_wp2_with fail
  go_region_law (first
    | (go_simp; go_at_call 61; (with_reducible refine Calls.mono HKF.out ?_); rintro e w2 ⟨rfl, hw2⟩; obtain rfl := hw2)
    | (go_simp; go_at_call 60; (with_reducible refine Calls.mono HSF.out ?_); rintro e w3 ⟨rfl, hw3⟩; obtain rfl := hw3)
    | (go_simp; go_at_call 101; refine Calls.mono (const64_ck HCF.out HB0.out) ?_; rintro e w4 ⟨rfl, hc, hbt⟩; have HBT4 := Lib.hid (HBF.out.trans hbt); have HCK4 := Lib.hid hc; clear hc hbt))
  all_goals (
    clear b0 b1 b2 b3 b4
    go_wp2_with fail
    exact bodyPost_end (v := .tuple #[]) (by simp [results, Tryz.results27, go_sem]) rfl ⟨rfl, HCK4.out, HBT4.out⟩)
end Go.Proofs.YtlappkflnlbfcaaGreatDoor.Chk
end

section
/- An instruction: walked (gen_cktake.py). -/
namespace Go.Proofs.YtlappkflnlbfcaaGreatDoor.Chk
open Go.RowKit Row9 Stk
set_option maxRecDepth 100000
set_option maxHeartbeats 8000000
set_option linter.unusedVariables false
/-- An instruction that may not be. -/
theorem take_no {w : World} {k : Nat} {V : EV} {E : EnvP} {s : Stk} {op A B K : Int} {LL : List Int} {lab : Value} (h : Cx w k V E (.ok s)) (hl : LabAt w k lab LL) (hu : Ints.u64R K) (hT : Ins.KTab w) (hs : Ins.saneI ⟨op, A, B, K, LL⟩ = false) : Calls Tryz.prog 27 #[.pointer (some ⟨k, 0, none⟩), .agg #[.int .i64 op, .int .i64 A, .int .i64 B, .int .u64 K, lab]] w (CkEnds w k V E (.er 1) (.tuple #[])) := by
  have HL0 := Lib.hid (hl.keep (below_new w (.cells #[.int .i64 op, .int .i64 A, .int .i64 B, .int .u64 K, lab] 33)))
  have HBT : Hid (But k w (w.alloc (.cells #[.int .i64 op, .int .i64 A, .int .i64 B, .int .u64 K, lab] 33))) := But.of_below (below_new w (.cells #[.int .i64 op, .int .i64 A, .int .i64 B, .int .u64 K, lab] 33))
  have HCK := Lib.hid (h.keep (below_new w (.cells #[.int .i64 op, .int .i64 A, .int .i64 B, .int .u64 K, lab] 33)))
  have HX := Lib.hid (heap_new w (.cells #[.int .i64 op, .int .i64 A, .int .i64 B, .int .u64 K, lab] 33))
  have HSN := Lib.hid (Ins.psane_any (x := ⟨op, A, B, K, LL⟩) (o := lab) HL0.out.sl hu (hT.keep (below_new w (.cells #[.int .i64 op, .int .i64 A, .int .i64 B, .int .u64 K, lab] 33))))
  rw [hs] at HSN
  rw [show Ins.iv ⟨op, A, B, K, LL⟩ lab = .agg #[.int .i64 op, .int .i64 A, .int .i64 B, .int .u64 K, lab] from rfl] at HSN
  clear h hl hu hT hs
  obtain ⟨b0, b1, b2, b3, b4⟩ : _ ∧ _ ∧ _ ∧ _ ∧ _ := ⟨(cells_at HX.out 0).1, (cells_at HX.out 1).1, (cells_at HX.out 2).1, (cells_at HX.out 3).1, (cells_at HX.out 4).1⟩
  simp only [List.getElem?_toArray, List.getElem?_cons_zero, List.getElem?_cons_succ] at b0 b1 b2 b3 b4
  go_enter Tryz.func27, Tryz.ntmps27
  go_wp2_with fail
  clear b0 b1 b2 b3 b4
  refine HSN.out.mono ?_
  rintro e w1 ⟨rfl, hb⟩
  have HBT := Lib.hid (HBT.out.trans (But.of_below hb))
  have HCK := Lib.hid (HCK.out.keep hb)
  clear hb
  go_wp2_with fail
  refine (need_ck HCK.out (by decide)).mono ?_
  rintro e w2 ⟨rfl, hc, hbt⟩
  have HBT := Lib.hid (HBT.out.trans hbt)
  have HCK := Lib.hid hc
  clear hc hbt
  go_wp2_with fail
  exact bodyPost_end (v := .tuple #[]) (by simp [results, Tryz.results27, go_sem]) rfl ⟨rfl, HCK.out, HBT.out⟩
/-- What an instruction makes. -/
def instrR (E : EnvP) (i : Ins.Ins) (s : Stk) : Rs := if Ins.saneI i = false then .er 1 else takeR E i s
theorem kd_nz {i : Ins.Ins} (h : Ins.saneI i = true) : Ins.kd i.op ≠ 0 := fun e => by
  rw [Ins.saneI_eq, e, Ins.saneK_0] at h
  cases h
theorem take_ck {w : World} {k : Nat} {V : EV} {E : EnvP} {s : Stk} {i : Ins.Ins} {lab : Value} (h : Cx w k V E (.ok s)) (hb : Bd (.ok s) 300000) (hf : FnBd E) (hl : LabAt w k lab i.L) (hu : Ints.u64R i.K) (hT : Ins.KTab w) (hA : Ins.ATab w) : Calls Tryz.prog 27 #[.pointer (some ⟨k, 0, none⟩), .agg #[.int .i64 i.op, .int .i64 i.A, .int .i64 i.B, .int .u64 i.K, lab]] w (CkEnds w k V E (instrR E i s) (.tuple #[])) := by
  obtain ⟨op, A, B, K, LL⟩ := i
  unfold instrR
  cases hs : Ins.saneI ⟨op, A, B, K, LL⟩ with
  | false => exact take_no h hl hu hT hs
  | true =>
    have hr := Ins.kd_range op
    have hz := kd_nz hs
    simp only at hz
    show Calls _ _ _ _ (CkEnds w k V E (takeR E ⟨op, A, B, K, LL⟩ s) (.tuple #[]))
    unfold takeR
    by_cases h1 : Ins.kd op = 1
    · rw [if_pos h1]; exact take_1 h hb hf hl hu hT hA h1 hs
    · rw [if_neg h1]
      by_cases h2 : Ins.kd op = 2
      · rw [if_pos h2]; exact take_2 h hb hf hl hu hT hA h2 hs
      · rw [if_neg h2]
        by_cases h3 : Ins.kd op = 3
        · rw [if_pos h3]; exact take_3 h hb hf hl hu hT hA h3 hs
        · rw [if_neg h3]
          by_cases h4 : Ins.kd op = 4
          · rw [if_pos h4]; exact take_4 h hb hf hl hu hT hA h4 hs
          · rw [if_neg h4]
            by_cases h5 : Ins.kd op = 5
            · rw [if_pos h5]; exact take_5 h hb hf hl hu hT hA h5 hs
            · rw [if_neg h5]
              by_cases h6 : Ins.kd op = 6
              · rw [if_pos h6]; exact take_6 h hb hf hl hu hT hA h6 hs
              · rw [if_neg h6]
                by_cases h7 : Ins.kd op = 7
                · rw [if_pos h7]; exact take_7 h hb hf hl hu hT hA h7 hs
                · rw [if_neg h7]
                  by_cases h8 : Ins.kd op = 8
                  · rw [if_pos h8]; exact take_8 h hb hf hl hu hT hA h8 hs
                  · rw [if_neg h8]
                    exact take_9 h hb hf hl hu hT hA (by show Ins.kd op = 9; obtain ⟨ha, hb'⟩ := hr; omega) hs
end Go.Proofs.YtlappkflnlbfcaaGreatDoor.Chk
end
