/- ChkI16, ChkI3, ChkI36, ChkLen. -/
import Derived.Test.YtlappkflnlbfcaaGreatDoorPkChkM
import Derived.Test.YtlappkflnlbfcaaGreatDoorPkChkI0
import Derived.Deep.RegionLaw
import Derived.Lib.BitFns
import Derived.Laws.Bits64b
section
/- What is named by a number, else, end: walked (gen_ckm2.py). -/
namespace Go.Proofs.YtlappkflnlbfcaaGreatDoor.Chk
open Go.RowKit Row9 Stk
set_option maxRecDepth 100000
set_option maxHeartbeats 8000000
set_option linter.unusedVariables false
theorem index_16 {w : World} {k : Nat} {V : EV} {E : EnvP} {s : Stk} {A B K : Int} {lab : Value} (h : Cx w k V E (.ok s)) (hb : Bd (.ok s) 300000) (hf : FnBd E) (hA : w64 A) : Calls Tryz.prog 95 #[.pointer (some ⟨k, 0, none⟩), .agg #[.int .i64 16, .int .i64 A, .int .i64 B, .int .u64 K, lab]] w (CkEnds w k V E (indexR E 16 A s) (.tuple #[])) := by
  have HA := Lib.hid hA
  have HFB := Lib.hid hf
  clear hf hA
  show Calls _ _ _ _ (CkEnds w k V E (callR ((typeE E A).getD ([], [])) (needR (typeE E A).isSome 6 (.ok s))) (.tuple #[]))
  have HCK := Lib.hid h
  have HB0 := Lib.hid hb
  have HBT : Hid (But k w (w.alloc (.cells #[.int .i64 16, .int .i64 A, .int .i64 B, .int .u64 K, lab] 33))) := But.of_below (below_new w (.cells #[.int .i64 16, .int .i64 A, .int .i64 B, .int .u64 K, lab] 33))
  have HCK := Lib.hid (h.keep (below_new w (.cells #[.int .i64 16, .int .i64 A, .int .i64 B, .int .u64 K, lab] 33)))
  have HX := Lib.hid (heap_new w (.cells #[.int .i64 16, .int .i64 A, .int .i64 B, .int .u64 K, lab] 33))
  have HSZ : Hid ((w.alloc (.cells #[.int .i64 16, .int .i64 A, .int .i64 B, .int .u64 K, lab] 33)).heap.size = w.heap.size + 1) := size_new _ _
  have HYK : Hid (w.heap.size ≠ k) := Lib.hid (by have := h.lt; omega)
  clear h hb
  obtain ⟨b0, b1, b4⟩ := cells5 HX.out
  have bl := lt_of_heap HX.out
  go_enter Tryz.func95, Tryz.ntmps95
  go_wp2_with fail
  clear b0 b1 b4 bl
  generalize w.alloc (.cells #[.int .i64 16, .int .i64 A, .int .i64 B, .int .u64 K, lab] 33) = u0 at *
  obtain ⟨y, hy⟩ : ∃ y, w.heap.size = y := ⟨_, rfl⟩
  rw [hy] at HX HYK HSZ
  simp only [hy]
  clear hy
  have HDw := Lib.hid (below_drew1 u0)
  have HTY := Lib.hid (Type_any (f := A) (HCK.out.env.keep HDw.out) HFB.out)
  have HTB := Lib.hid (type_bd (n := A) HFB.out)
  have hev : evV V E = .agg #[.slice V.Pt V.nt V.ct, .slice V.Pf V.nf V.cf, .int .i64 E.tables, .int .i64 E.mems, .slice V.Pg V.ng V.cg, .slice V.Pl V.nl V.cl, .slice V.Pr V.nr V.cr] := rfl
  rw [hev] at HTY
  clear hev
  have HZW := Lib.hid ((below_new u0 (.cells #[.slice none 0 0, .slice none 0 0] 51)).drew)
  have HZ0 := Lib.hid (show ((u0.alloc (.cells #[.slice none 0 0, .slice none 0 0] 51)).drew).heap[u0.heap.size]? = _ from heap_new u0 (.cells #[.slice none 0 0, .slice none 0 0] 51))
  have HTZ := Lib.hid (Type_any (f := A) (HCK.out.env.keep HZW.out) HFB.out)
  rw [show evV V E = .agg #[.slice V.Pt V.nt V.ct, .slice V.Pf V.nf V.cf, .int .i64 E.tables, .int .i64 E.mems, .slice V.Pg V.ng V.cg, .slice V.Pl V.nl V.cl, .slice V.Pr V.nr V.cr] from rfl] at HTZ
  generalize (typeE E A).isSome = ok at *
  generalize (typeE E A).getD ([], []) = f at *
  obtain ⟨b0, b1, b4⟩ := cells5 HX.out
  have bl := lt_of_heap HX.out
  obtain ⟨_, _, _, _, _, _, _, hkh⟩ := HCK.out.heap
  obtain ⟨e0, e1, e2, e3, e4, e5, e6⟩ := ckcells hkh
  have ekl := lt_of_heap hkh
  go_region_law (first
    | (go_simp; go_at_call 16; (with_reducible refine Calls.mono HTY.out ?_); rintro e w1 ⟨⟨P1, n1, c1, Q1, m1, d1, rfl, hr1, hr2⟩, hb⟩; have HBA := Lib.hid (HDw.out.trans hb); have HR1 := Lib.hid hr1; have HR2 := Lib.hid hr2; obtain ⟨b0, b1, b4⟩ := cells5 (blk HX.out HBA.out); have bl := lt_of_heap (blk HX.out HBA.out); clear hb hr1 hr2)
    | (go_simp; go_at_call 16; (with_reducible refine Calls.mono HTZ.out ?_); rintro e w1 ⟨⟨P1, n1, c1, Q1, m1, d1, rfl, hr1, hr2⟩, hb⟩; have HBB := Lib.hid (HZW.out.trans (hb.mono HZW.out.size)); have HZ1 := Lib.hid (blk HZ0.out hb); obtain ⟨z0, z1⟩ := cells2 HZ1.out; have zp0 := (cells_at HZ1.out 0).2; have zp1 := (cells_at HZ1.out 1).2; have zl := lt_of_heap HZ1.out; have HR1 := Lib.hid hr1; have HR2 := Lib.hid hr2; obtain ⟨b0, b1, b4⟩ := cells5 (blk HX.out HBB.out); have bl := lt_of_heap (blk HX.out HBB.out); clear hb hr1 hr2))
  all_goals (first
  | (
    have HBA' := Lib.hid HBA.out
    have HT := Lib.hid (HBA.out.trans ((below_new w1 (.cells #[.slice P1 n1 c1, .slice Q1 m1 d1] 51)).mono HBA.out.size))
    have HR1 := Lib.hid (HR1.out.keep (below_new w1 (.cells #[.slice P1 n1 c1, .slice Q1 m1 d1] 51)))
    have HR2 := Lib.hid (HR2.out.keep (below_new w1 (.cells #[.slice P1 n1 c1, .slice Q1 m1 d1] 51)))
    have HF := Lib.hid (heap_new w1 (.cells #[.slice P1 n1 c1, .slice Q1 m1 d1] 51))
    obtain ⟨z, hz⟩ : ∃ z, w1.heap.size = z := ⟨_, rfl⟩
    have HZS : Hid (u0.heap.size ≤ z) := Lib.hid (by rw [← hz]; exact HBA.out.size)
    rw [hz] at HF
    simp only [hz]
    clear hz HBA'
    generalize w1.alloc (.cells #[.slice P1 n1 c1, .slice Q1 m1 d1] 51) = w2 at *
    clear b0 b1 b4 bl hkh e0 e1 e2 e3 e4 e5 e6 ekl
    have HFK : Hid (z ≠ k) := Lib.hid (by have := HCK.out.lt; have := HZS.out; omega)
    have HX := Lib.hid (blk HX.out HT.out)
    have HBT := Lib.hid (HBT.out.trans (But.of_below HT.out))
    have HCK := Lib.hid (HCK.out.keep HT.out)
    go_wp2_with fail
    refine (need_ck HCK.out (by decide)).mono ?_
    rintro e w3 ⟨rfl, hc, hbt⟩
    have HR1 := Lib.hid (rowB_apart HR1.out HCK.out.nobb hbt)
    have HR2 := Lib.hid (rowB_apart HR2.out HCK.out.nobb hbt)
    have HF := Lib.hid ((hbt.block z (lt_of_heap HF.out) HFK.out).trans HF.out)
    have HBT := Lib.hid (HBT.out.trans hbt)
    have HCK := Lib.hid hc
    clear hc hbt
    obtain ⟨f0, f1⟩ := cells2 HF.out
    go_wp2_with fail
    clear f0 f1
    refine (call_ck HCK.out (HB0.out.need.mono (by omega)) HR1.out HR2.out HTB.out.1 HTB.out.2).mono ?_
    rintro e w4 ⟨rfl, hc, hbt⟩
    have HBT := Lib.hid (HBT.out.trans hbt)
    have HCK := Lib.hid hc
    clear hc hbt
    go_wp2_with fail
    exact bodyPost_end (v := .tuple #[]) (by simp [results, Tryz.results95, go_sem]) rfl ⟨rfl, HCK.out, HBT.out⟩)
  | (
    have HBB' := Lib.hid HBB.out
    obtain ⟨z, hz⟩ : ∃ z, u0.heap.size = z := ⟨_, rfl⟩
    have HZS : Hid (u0.heap.size ≤ z) := Lib.hid (Nat.le_of_eq hz)
    rw [hz] at HZ1
    simp only [hz]
    have HT := Lib.hid ((HBB.out.setCell (p := ⟨z, 0, none⟩) HZS.out (.slice P1 n1 c1)).setCell (p := ⟨z, 1, none⟩) HZS.out (.slice Q1 m1 d1))
    have HR1 := Lib.hid (rowB_box (rowB_box HR1.out HZ1.out (i := 0) (u := .slice P1 n1 c1)) (set_heap HZ1.out _) (i := 1) (u := .slice Q1 m1 d1))
    have HR2 := Lib.hid (rowB_box (rowB_box HR2.out HZ1.out (i := 0) (u := .slice P1 n1 c1)) (set_heap HZ1.out _) (i := 1) (u := .slice Q1 m1 d1))
    have HF := Lib.hid (store2 HZ1.out (.slice P1 n1 c1) (.slice Q1 m1 d1))
    clear z0 z1 zp0 zp1 zl hz HBB'
    generalize (w1.setCell ⟨z, 0, none⟩ (.slice P1 n1 c1)).setCell ⟨z, 1, none⟩ (.slice Q1 m1 d1) = w2 at *
    clear b0 b1 b4 bl hkh e0 e1 e2 e3 e4 e5 e6 ekl
    have HFK : Hid (z ≠ k) := Lib.hid (by have := HCK.out.lt; have := HZS.out; omega)
    have HX := Lib.hid (blk HX.out HT.out)
    have HBT := Lib.hid (HBT.out.trans (But.of_below HT.out))
    have HCK := Lib.hid (HCK.out.keep HT.out)
    go_wp2_with fail
    refine (need_ck HCK.out (by decide)).mono ?_
    rintro e w3 ⟨rfl, hc, hbt⟩
    have HR1 := Lib.hid (rowB_apart HR1.out HCK.out.nobb hbt)
    have HR2 := Lib.hid (rowB_apart HR2.out HCK.out.nobb hbt)
    have HF := Lib.hid ((hbt.block z (lt_of_heap HF.out) HFK.out).trans HF.out)
    have HBT := Lib.hid (HBT.out.trans hbt)
    have HCK := Lib.hid hc
    clear hc hbt
    obtain ⟨f0, f1⟩ := cells2 HF.out
    go_wp2_with fail
    clear f0 f1
    refine (call_ck HCK.out (HB0.out.need.mono (by omega)) HR1.out HR2.out HTB.out.1 HTB.out.2).mono ?_
    rintro e w4 ⟨rfl, hc, hbt⟩
    have HBT := Lib.hid (HBT.out.trans hbt)
    have HCK := Lib.hid hc
    clear hc hbt
    go_wp2_with fail
    exact bodyPost_end (v := .tuple #[]) (by simp [results, Tryz.results95, go_sem]) rfl ⟨rfl, HCK.out, HBT.out⟩))
end Go.Proofs.YtlappkflnlbfcaaGreatDoor.Chk
end

section
/- What is named by a number, else, end: walked (gen_ckm2.py). -/
namespace Go.Proofs.YtlappkflnlbfcaaGreatDoor.Chk
open Go.RowKit Row9 Stk
set_option maxRecDepth 100000
set_option maxHeartbeats 8000000
set_option linter.unusedVariables false
theorem index_32 {w : World} {k : Nat} {V : EV} {E : EnvP} {s : Stk} {A B K : Int} {lab : Value} (h : Cx w k V E (.ok s)) (hb : Bd (.ok s) 300000) (hf : FnBd E) (hA : w64 A) : Calls Tryz.prog 95 #[.pointer (some ⟨k, 0, none⟩), .agg #[.int .i64 32, .int .i64 A, .int .i64 B, .int .u64 K, lab]] w (CkEnds w k V E (indexR E 32 A s) (.tuple #[])) := by
  have HA := Lib.hid hA
  have HFB := Lib.hid hf
  clear hf hA
  show Calls _ _ _ _ (CkEnds w k V E (localR 32 ((atL E.locals A).getD 0) (namedR E.locals A (.ok s))) (.tuple #[]))
  have HCK := Lib.hid h
  have HB0 := Lib.hid hb
  have HBT : Hid (But k w (w.alloc (.cells #[.int .i64 32, .int .i64 A, .int .i64 B, .int .u64 K, lab] 33))) := But.of_below (below_new w (.cells #[.int .i64 32, .int .i64 A, .int .i64 B, .int .u64 K, lab] 33))
  have HCK := Lib.hid (h.keep (below_new w (.cells #[.int .i64 32, .int .i64 A, .int .i64 B, .int .u64 K, lab] 33)))
  have HX := Lib.hid (heap_new w (.cells #[.int .i64 32, .int .i64 A, .int .i64 B, .int .u64 K, lab] 33))
  have HSZ : Hid ((w.alloc (.cells #[.int .i64 32, .int .i64 A, .int .i64 B, .int .u64 K, lab] 33)).heap.size = w.heap.size + 1) := size_new _ _
  have HYK : Hid (w.heap.size ≠ k) := Lib.hid (by have := h.lt; omega)
  clear h hb
  obtain ⟨b0, b1, b4⟩ := cells5 HX.out
  have bl := lt_of_heap HX.out
  go_enter Tryz.func95, Tryz.ntmps95
  go_wp2_with fail
  clear b0 b1 b4 bl
  generalize w.alloc (.cells #[.int .i64 32, .int .i64 A, .int .i64 B, .int .u64 K, lab] 33) = u0 at *
  obtain ⟨y, hy⟩ : ∃ y, w.heap.size = y := ⟨_, rfl⟩
  rw [hy] at HX HYK HSZ
  simp only [hy]
  clear hy
  have HDw := Lib.hid (below_drew1 u0)
  have HCD := Lib.hid (HCK.out.keep HDw.out)
  have HNM := Lib.hid (named_byte (n := A) HCD.out HCD.out.env.l)
  have HRG := Lib.hid (atB_range HCD.out.env.l A)
  generalize (atL E.locals A).getD 0 = v at *
  obtain ⟨b0, b1, b4⟩ := cells5 HX.out
  have bl := lt_of_heap HX.out
  obtain ⟨_, _, _, _, _, _, _, hkh⟩ := HCK.out.heap
  obtain ⟨e0, e1, e2, e3, e4, e5, e6⟩ := ckcells hkh
  have ekl := lt_of_heap hkh
  go_region_law (first
    | (go_simp; go_at_call 130; (with_reducible refine Calls.mono HNM.out ?_); rintro e w1 ⟨rfl, hc, hbt⟩; have HBT1 := Lib.hid ((HBT.out.trans (But.of_below HDw.out)).trans hbt); have HCK1 := Lib.hid hc; have HX1 := Lib.hid ((hbt.block y (lt_of_heap (blk HX.out HDw.out)) HYK.out).trans (blk HX.out HDw.out)); obtain ⟨b0, b1, b4⟩ := cells5 HX1.out; have bl := lt_of_heap HX1.out; clear hc hbt)
    | (go_simp; go_at_call 129; refine Calls.mono (local_ck HCK1.out (HB0.out.need.mono (by omega) : Bd (namedR E.locals A (.ok s)) 300000) HRG.out (by omega)) ?_; rintro e w2 ⟨rfl, hc, hbt⟩; have HBT2 := Lib.hid (HBT1.out.trans hbt); have HCK2 := Lib.hid hc; clear hc hbt))
  all_goals (
    clear b0 b1 b4 bl hkh e0 e1 e2 e3 e4 e5 e6 ekl
    go_wp2_with fail
    exact bodyPost_end (v := .tuple #[]) (by simp [results, Tryz.results95, go_sem]) rfl ⟨rfl, HCK2.out, HBT2.out⟩)
theorem index_33 {w : World} {k : Nat} {V : EV} {E : EnvP} {s : Stk} {A B K : Int} {lab : Value} (h : Cx w k V E (.ok s)) (hb : Bd (.ok s) 300000) (hf : FnBd E) (hA : w64 A) : Calls Tryz.prog 95 #[.pointer (some ⟨k, 0, none⟩), .agg #[.int .i64 33, .int .i64 A, .int .i64 B, .int .u64 K, lab]] w (CkEnds w k V E (indexR E 33 A s) (.tuple #[])) := by
  have HA := Lib.hid hA
  have HFB := Lib.hid hf
  clear hf hA
  show Calls _ _ _ _ (CkEnds w k V E (localR 33 ((atL E.locals A).getD 0) (namedR E.locals A (.ok s))) (.tuple #[]))
  have HCK := Lib.hid h
  have HB0 := Lib.hid hb
  have HBT : Hid (But k w (w.alloc (.cells #[.int .i64 33, .int .i64 A, .int .i64 B, .int .u64 K, lab] 33))) := But.of_below (below_new w (.cells #[.int .i64 33, .int .i64 A, .int .i64 B, .int .u64 K, lab] 33))
  have HCK := Lib.hid (h.keep (below_new w (.cells #[.int .i64 33, .int .i64 A, .int .i64 B, .int .u64 K, lab] 33)))
  have HX := Lib.hid (heap_new w (.cells #[.int .i64 33, .int .i64 A, .int .i64 B, .int .u64 K, lab] 33))
  have HSZ : Hid ((w.alloc (.cells #[.int .i64 33, .int .i64 A, .int .i64 B, .int .u64 K, lab] 33)).heap.size = w.heap.size + 1) := size_new _ _
  have HYK : Hid (w.heap.size ≠ k) := Lib.hid (by have := h.lt; omega)
  clear h hb
  obtain ⟨b0, b1, b4⟩ := cells5 HX.out
  have bl := lt_of_heap HX.out
  go_enter Tryz.func95, Tryz.ntmps95
  go_wp2_with fail
  clear b0 b1 b4 bl
  generalize w.alloc (.cells #[.int .i64 33, .int .i64 A, .int .i64 B, .int .u64 K, lab] 33) = u0 at *
  obtain ⟨y, hy⟩ : ∃ y, w.heap.size = y := ⟨_, rfl⟩
  rw [hy] at HX HYK HSZ
  simp only [hy]
  clear hy
  have HDw := Lib.hid (below_drew1 u0)
  have HCD := Lib.hid (HCK.out.keep HDw.out)
  have HNM := Lib.hid (named_byte (n := A) HCD.out HCD.out.env.l)
  have HRG := Lib.hid (atB_range HCD.out.env.l A)
  generalize (atL E.locals A).getD 0 = v at *
  obtain ⟨b0, b1, b4⟩ := cells5 HX.out
  have bl := lt_of_heap HX.out
  obtain ⟨_, _, _, _, _, _, _, hkh⟩ := HCK.out.heap
  obtain ⟨e0, e1, e2, e3, e4, e5, e6⟩ := ckcells hkh
  have ekl := lt_of_heap hkh
  go_region_law (first
    | (go_simp; go_at_call 130; (with_reducible refine Calls.mono HNM.out ?_); rintro e w1 ⟨rfl, hc, hbt⟩; have HBT1 := Lib.hid ((HBT.out.trans (But.of_below HDw.out)).trans hbt); have HCK1 := Lib.hid hc; have HX1 := Lib.hid ((hbt.block y (lt_of_heap (blk HX.out HDw.out)) HYK.out).trans (blk HX.out HDw.out)); obtain ⟨b0, b1, b4⟩ := cells5 HX1.out; have bl := lt_of_heap HX1.out; clear hc hbt)
    | (go_simp; go_at_call 129; refine Calls.mono (local_ck HCK1.out (HB0.out.need.mono (by omega) : Bd (namedR E.locals A (.ok s)) 300000) HRG.out (by omega)) ?_; rintro e w2 ⟨rfl, hc, hbt⟩; have HBT2 := Lib.hid (HBT1.out.trans hbt); have HCK2 := Lib.hid hc; clear hc hbt))
  all_goals (
    clear b0 b1 b4 bl hkh e0 e1 e2 e3 e4 e5 e6 ekl
    go_wp2_with fail
    exact bodyPost_end (v := .tuple #[]) (by simp [results, Tryz.results95, go_sem]) rfl ⟨rfl, HCK2.out, HBT2.out⟩)
theorem index_34 {w : World} {k : Nat} {V : EV} {E : EnvP} {s : Stk} {A B K : Int} {lab : Value} (h : Cx w k V E (.ok s)) (hb : Bd (.ok s) 300000) (hf : FnBd E) (hA : w64 A) : Calls Tryz.prog 95 #[.pointer (some ⟨k, 0, none⟩), .agg #[.int .i64 34, .int .i64 A, .int .i64 B, .int .u64 K, lab]] w (CkEnds w k V E (indexR E 34 A s) (.tuple #[])) := by
  have HA := Lib.hid hA
  have HFB := Lib.hid hf
  clear hf hA
  show Calls _ _ _ _ (CkEnds w k V E (localR 34 ((atL E.locals A).getD 0) (namedR E.locals A (.ok s))) (.tuple #[]))
  have HCK := Lib.hid h
  have HB0 := Lib.hid hb
  have HBT : Hid (But k w (w.alloc (.cells #[.int .i64 34, .int .i64 A, .int .i64 B, .int .u64 K, lab] 33))) := But.of_below (below_new w (.cells #[.int .i64 34, .int .i64 A, .int .i64 B, .int .u64 K, lab] 33))
  have HCK := Lib.hid (h.keep (below_new w (.cells #[.int .i64 34, .int .i64 A, .int .i64 B, .int .u64 K, lab] 33)))
  have HX := Lib.hid (heap_new w (.cells #[.int .i64 34, .int .i64 A, .int .i64 B, .int .u64 K, lab] 33))
  have HSZ : Hid ((w.alloc (.cells #[.int .i64 34, .int .i64 A, .int .i64 B, .int .u64 K, lab] 33)).heap.size = w.heap.size + 1) := size_new _ _
  have HYK : Hid (w.heap.size ≠ k) := Lib.hid (by have := h.lt; omega)
  clear h hb
  obtain ⟨b0, b1, b4⟩ := cells5 HX.out
  have bl := lt_of_heap HX.out
  go_enter Tryz.func95, Tryz.ntmps95
  go_wp2_with fail
  clear b0 b1 b4 bl
  generalize w.alloc (.cells #[.int .i64 34, .int .i64 A, .int .i64 B, .int .u64 K, lab] 33) = u0 at *
  obtain ⟨y, hy⟩ : ∃ y, w.heap.size = y := ⟨_, rfl⟩
  rw [hy] at HX HYK HSZ
  simp only [hy]
  clear hy
  have HDw := Lib.hid (below_drew1 u0)
  have HCD := Lib.hid (HCK.out.keep HDw.out)
  have HNM := Lib.hid (named_byte (n := A) HCD.out HCD.out.env.l)
  have HRG := Lib.hid (atB_range HCD.out.env.l A)
  generalize (atL E.locals A).getD 0 = v at *
  obtain ⟨b0, b1, b4⟩ := cells5 HX.out
  have bl := lt_of_heap HX.out
  obtain ⟨_, _, _, _, _, _, _, hkh⟩ := HCK.out.heap
  obtain ⟨e0, e1, e2, e3, e4, e5, e6⟩ := ckcells hkh
  have ekl := lt_of_heap hkh
  go_region_law (first
    | (go_simp; go_at_call 130; (with_reducible refine Calls.mono HNM.out ?_); rintro e w1 ⟨rfl, hc, hbt⟩; have HBT1 := Lib.hid ((HBT.out.trans (But.of_below HDw.out)).trans hbt); have HCK1 := Lib.hid hc; have HX1 := Lib.hid ((hbt.block y (lt_of_heap (blk HX.out HDw.out)) HYK.out).trans (blk HX.out HDw.out)); obtain ⟨b0, b1, b4⟩ := cells5 HX1.out; have bl := lt_of_heap HX1.out; clear hc hbt)
    | (go_simp; go_at_call 129; refine Calls.mono (local_ck HCK1.out (HB0.out.need.mono (by omega) : Bd (namedR E.locals A (.ok s)) 300000) HRG.out (by omega)) ?_; rintro e w2 ⟨rfl, hc, hbt⟩; have HBT2 := Lib.hid (HBT1.out.trans hbt); have HCK2 := Lib.hid hc; clear hc hbt))
  all_goals (
    clear b0 b1 b4 bl hkh e0 e1 e2 e3 e4 e5 e6 ekl
    go_wp2_with fail
    exact bodyPost_end (v := .tuple #[]) (by simp [results, Tryz.results95, go_sem]) rfl ⟨rfl, HCK2.out, HBT2.out⟩)
theorem index_35 {w : World} {k : Nat} {V : EV} {E : EnvP} {s : Stk} {A B K : Int} {lab : Value} (h : Cx w k V E (.ok s)) (hb : Bd (.ok s) 300000) (hf : FnBd E) (hA : w64 A) : Calls Tryz.prog 95 #[.pointer (some ⟨k, 0, none⟩), .agg #[.int .i64 35, .int .i64 A, .int .i64 B, .int .u64 K, lab]] w (CkEnds w k V E (indexR E 35 A s) (.tuple #[])) := by
  have HA := Lib.hid hA
  have HFB := Lib.hid hf
  clear hf hA
  show Calls _ _ _ _ (CkEnds w k V E (pushR [((atL E.globs A).getD (0, false)).1] (namedR E.globs A (.ok s))) (.tuple #[]))
  have HCK := Lib.hid h
  have HB0 := Lib.hid hb
  have HBT : Hid (But k w (w.alloc (.cells #[.int .i64 35, .int .i64 A, .int .i64 B, .int .u64 K, lab] 33))) := But.of_below (below_new w (.cells #[.int .i64 35, .int .i64 A, .int .i64 B, .int .u64 K, lab] 33))
  have HCK := Lib.hid (h.keep (below_new w (.cells #[.int .i64 35, .int .i64 A, .int .i64 B, .int .u64 K, lab] 33)))
  have HX := Lib.hid (heap_new w (.cells #[.int .i64 35, .int .i64 A, .int .i64 B, .int .u64 K, lab] 33))
  have HSZ : Hid ((w.alloc (.cells #[.int .i64 35, .int .i64 A, .int .i64 B, .int .u64 K, lab] 33)).heap.size = w.heap.size + 1) := size_new _ _
  have HYK : Hid (w.heap.size ≠ k) := Lib.hid (by have := h.lt; omega)
  clear h hb
  obtain ⟨b0, b1, b4⟩ := cells5 HX.out
  have bl := lt_of_heap HX.out
  go_enter Tryz.func95, Tryz.ntmps95
  go_wp2_with fail
  clear b0 b1 b4 bl
  generalize w.alloc (.cells #[.int .i64 35, .int .i64 A, .int .i64 B, .int .u64 K, lab] 33) = u0 at *
  obtain ⟨y, hy⟩ : ∃ y, w.heap.size = y := ⟨_, rfl⟩
  rw [hy] at HX HYK HSZ
  simp only [hy]
  clear hy
  have HDw := Lib.hid (below_drew1 u0)
  have HCD := Lib.hid (HCK.out.keep HDw.out)
  have HNM := Lib.hid (named_glob (n := A) HCD.out HCD.out.env.g)
  have HRG := Lib.hid (atG_range HCD.out.env.g A)
  obtain ⟨gl, hgl⟩ : ∃ gl, (atL E.globs A).getD (0, false) = gl := ⟨_, rfl⟩
  rw [hgl] at HNM HRG ⊢
  obtain ⟨gv, gm⟩ := gl
  have HGL := Lib.hid hgl
  simp only at HNM HRG ⊢
  have hfg := run_fldG0 gv gm
  obtain ⟨b0, b1, b4⟩ := cells5 HX.out
  have bl := lt_of_heap HX.out
  obtain ⟨_, _, _, _, _, _, _, hkh⟩ := HCK.out.heap
  obtain ⟨e0, e1, e2, e3, e4, e5, e6⟩ := ckcells hkh
  have ekl := lt_of_heap hkh
  go_region_law (first
    | (go_simp; go_at_call 131; (with_reducible refine Calls.mono HNM.out ?_); rintro e w1 ⟨rfl, hc, hbt⟩; have HBT1 := Lib.hid ((HBT.out.trans (But.of_below HDw.out)).trans hbt); have HCK1 := Lib.hid hc; have HX1 := Lib.hid ((hbt.block y (lt_of_heap (blk HX.out HDw.out)) HYK.out).trans (blk HX.out HDw.out)); obtain ⟨b0, b1, b4⟩ := cells5 HX1.out; have bl := lt_of_heap HX1.out; have HNW := Lib.hid (below_new w1 (.cells #[.int .u8 gv] 5)); have HLR := Lib.hid (row_lit1 w1 gv HRG.out); clear hc hbt)
    | (go_simp; go_at_call 120; refine Calls.mono (push_ck (HCK1.out.keep HNW.out) (HB0.out.need.mono (by omega) : Bd (namedR E.globs A (.ok s)) 400000) HLR.out (by simp)) ?_; rintro e w2 ⟨rfl, hc, hbt⟩; have HBT2 := Lib.hid ((HBT1.out.trans (But.of_below HNW.out)).trans hbt); have HCK2 := Lib.hid hc; clear hc hbt))
  all_goals (
    clear b0 b1 b4 bl hkh e0 e1 e2 e3 e4 e5 e6 ekl
    go_wp2_with fail
    exact bodyPost_end (v := .tuple #[]) (by simp [results, Tryz.results95, go_sem]) rfl ⟨rfl, HCK2.out, HBT2.out⟩)
end Go.Proofs.YtlappkflnlbfcaaGreatDoor.Chk
end

section
/- What is named by a number, else, end: walked (gen_ckm2.py). -/
namespace Go.Proofs.YtlappkflnlbfcaaGreatDoor.Chk
open Go.RowKit Row9 Stk
set_option maxRecDepth 100000
set_option maxHeartbeats 8000000
set_option linter.unusedVariables false
theorem index_36 {w : World} {k : Nat} {V : EV} {E : EnvP} {s : Stk} {A B K : Int} {lab : Value} (h : Cx w k V E (.ok s)) (hb : Bd (.ok s) 300000) (hf : FnBd E) (hA : w64 A) : Calls Tryz.prog 95 #[.pointer (some ⟨k, 0, none⟩), .agg #[.int .i64 36, .int .i64 A, .int .i64 B, .int .u64 K, lab]] w (CkEnds w k V E (indexR E 36 A s) (.tuple #[])) := by
  have HA := Lib.hid hA
  have HFB := Lib.hid hf
  clear hf hA
  show Calls _ _ _ _ (CkEnds w k V E (wantR [((atL E.globs A).getD (0, false)).1] (needR ((atL E.globs A).getD (0, false)).2 5 (namedR E.globs A (.ok s)))) (.tuple #[]))
  have HCK := Lib.hid h
  have HB0 := Lib.hid hb
  have HBT : Hid (But k w (w.alloc (.cells #[.int .i64 36, .int .i64 A, .int .i64 B, .int .u64 K, lab] 33))) := But.of_below (below_new w (.cells #[.int .i64 36, .int .i64 A, .int .i64 B, .int .u64 K, lab] 33))
  have HCK := Lib.hid (h.keep (below_new w (.cells #[.int .i64 36, .int .i64 A, .int .i64 B, .int .u64 K, lab] 33)))
  have HX := Lib.hid (heap_new w (.cells #[.int .i64 36, .int .i64 A, .int .i64 B, .int .u64 K, lab] 33))
  have HSZ : Hid ((w.alloc (.cells #[.int .i64 36, .int .i64 A, .int .i64 B, .int .u64 K, lab] 33)).heap.size = w.heap.size + 1) := size_new _ _
  have HYK : Hid (w.heap.size ≠ k) := Lib.hid (by have := h.lt; omega)
  clear h hb
  obtain ⟨b0, b1, b4⟩ := cells5 HX.out
  have bl := lt_of_heap HX.out
  go_enter Tryz.func95, Tryz.ntmps95
  go_wp2_with fail
  clear b0 b1 b4 bl
  generalize w.alloc (.cells #[.int .i64 36, .int .i64 A, .int .i64 B, .int .u64 K, lab] 33) = u0 at *
  obtain ⟨y, hy⟩ : ∃ y, w.heap.size = y := ⟨_, rfl⟩
  rw [hy] at HX HYK HSZ
  simp only [hy]
  clear hy
  have HDw := Lib.hid (below_drew1 u0)
  have HCD := Lib.hid (HCK.out.keep HDw.out)
  have HNM := Lib.hid (named_glob (n := A) HCD.out HCD.out.env.g)
  have HRG := Lib.hid (atG_range HCD.out.env.g A)
  obtain ⟨gl, hgl⟩ : ∃ gl, (atL E.globs A).getD (0, false) = gl := ⟨_, rfl⟩
  rw [hgl] at HNM HRG ⊢
  obtain ⟨gv, gm⟩ := gl
  have HGL := Lib.hid hgl
  simp only at HNM HRG ⊢
  obtain ⟨b0, b1, b4⟩ := cells5 HX.out
  have bl := lt_of_heap HX.out
  obtain ⟨_, _, _, _, _, _, _, hkh⟩ := HCK.out.heap
  obtain ⟨e0, e1, e2, e3, e4, e5, e6⟩ := ckcells hkh
  have ekl := lt_of_heap hkh
  have HZW := Lib.hid ((below_new u0 (.cells #[.int .u8 0, .bool false] 82)).drew)
  have HZ0 := Lib.hid (show ((u0.alloc (.cells #[.int .u8 0, .bool false] 82)).drew).heap[u0.heap.size]? = _ from heap_new u0 (.cells #[.int .u8 0, .bool false] 82))
  have HZK : Hid (u0.heap.size ≠ k) := Lib.hid (by have := HCK.out.lt; omega)
  have HNZ := Lib.hid (named_globN (n := A) (HCK.out.keep HZW.out) (HCK.out.env.g.keep HZW.out))
  rw [hgl] at HNZ
  go_region_law (first
    | (go_simp; go_at_call 131; (with_reducible refine Calls.mono HNM.out ?_); rintro e w1 ⟨rfl, hc, hbt⟩; have HBTA := Lib.hid ((HBT.out.trans (But.of_below HDw.out)).trans hbt); have HCKA := Lib.hid hc; have HX1 := Lib.hid ((hbt.block y (lt_of_heap (blk HX.out HDw.out)) HYK.out).trans (blk HX.out HDw.out)); obtain ⟨b0, b1, b4⟩ := cells5 HX1.out; have bl := lt_of_heap HX1.out; clear hc hbt)
    | (go_simp; go_at_call 131; (with_reducible refine Calls.mono HNZ.out ?_); rintro e w1 ⟨rfl, hor⟩; have HOR := Lib.hid hor; have hbt := (show But k (u0.alloc (.cells #[.int .u8 0, .bool false] 82)).drew w1 by rcases hor with ⟨_, hb⟩ | ⟨_, _, _, hb⟩; exact But.of_below hb; exact hb); have HBTB := Lib.hid hbt; have HX1 := Lib.hid ((hbt.block y (lt_of_heap (blk HX.out HZW.out)) HYK.out).trans (blk HX.out HZW.out)); have HZ1 := Lib.hid ((hbt.block u0.heap.size (lt_of_heap HZ0.out) HZK.out).trans HZ0.out); obtain ⟨z0, z1⟩ := cells2 HZ1.out; have zp0 := (cells_at HZ1.out 0).2; have zp1 := (cells_at HZ1.out 1).2; have zl := lt_of_heap HZ1.out; obtain ⟨b0, b1, b4⟩ := cells5 HX1.out; have bl := lt_of_heap HX1.out; clear hor hbt))
  all_goals (first
  | (
    have HBT := Lib.hid (HBTA.out.trans (But.of_below (below_new w1 (.cells #[.int .u8 gv, .bool gm] 82))))
    have HCK := Lib.hid (HCKA.out.keep (below_new w1 (.cells #[.int .u8 gv, .bool gm] 82)))
    have HF := Lib.hid (heap_new w1 (.cells #[.int .u8 gv, .bool gm] 82))
    have HFK0 : Hid (w1.heap.size ≠ k) := Lib.hid (by have := HCKA.out.lt; omega)
    obtain ⟨z, hz⟩ : ∃ z, w1.heap.size = z := ⟨_, rfl⟩
    have HFK : Hid (z ≠ k) := Lib.hid (by rw [← hz]; exact HFK0.out)
    rw [hz] at HF
    simp only [hz]
    clear hz HFK0
    generalize w1.alloc (.cells #[.int .u8 gv, .bool gm] 82) = w2 at *
    clear b0 b1 b4 bl hkh e0 e1 e2 e3 e4 e5 e6 ekl
    obtain ⟨f0, f1⟩ := cells2 HF.out
    go_wp2_with fail
    clear f0 f1
    refine (need_ck HCK.out (by decide)).mono ?_
    rintro e w3 ⟨rfl, hc, hbt⟩
    have HF := Lib.hid ((hbt.block z (lt_of_heap HF.out) HFK.out).trans HF.out)
    have HBT := Lib.hid (HBT.out.trans hbt)
    have HCK := Lib.hid hc
    clear hc hbt
    obtain ⟨f0, f1⟩ := cells2 HF.out
    have fl := lt_of_heap HF.out
    go_wp2_with fail
    clear f0 f1 fl
    have HNW := Lib.hid (below_new w3 (.cells #[.int .u8 gv] 5))
    have HLR := Lib.hid (row_lit1 w3 gv HRG.out)
    refine (want_ck (HCK.out.keep HNW.out) (HB0.out.need.need.mono (by omega) : Bd (needR gm 5 (namedR E.globs A (.ok s))) 400000) HLR.out (by simp)).mono ?_
    rintro e w4 ⟨rfl, hc, hbt⟩
    have HBT := Lib.hid ((HBT.out.trans (But.of_below HNW.out)).trans hbt)
    have HCK := Lib.hid hc
    clear hc hbt
    go_wp2_with fail
    exact bodyPost_end (v := .tuple #[]) (by simp [results, Tryz.results95, go_sem]) rfl ⟨rfl, by first | exact HCK.out | (rw [HGL.out]; exact HCK.out), HBT.out⟩)
  | (
    have HBB' := Lib.hid HBTB.out
    obtain ⟨z, hz⟩ : ∃ z, u0.heap.size = z := ⟨_, rfl⟩
    have HFK : Hid (z ≠ k) := Lib.hid (by rw [← hz]; exact HZK.out)
    rw [hz] at HZ1
    simp only [hz]
    have HF := Lib.hid (store2 HZ1.out (.int .u8 gv) (.bool gm))
    have hboth : Cx ((w1.setCell ⟨z, 0, none⟩ (.int .u8 gv)).setCell ⟨z, 1, none⟩ (.bool gm)) k V E (namedR E.globs A (.ok s)) ∧ But k u0 ((w1.setCell ⟨z, 0, none⟩ (.int .u8 gv)).setCell ⟨z, 1, none⟩ (.bool gm)) := by
      have hbz := but_z ((But.of_below (g := k) HZW.out).trans HBTB.out) hz (w' := (w1.setCell ⟨z, 0, none⟩ (.int .u8 gv)).setCell ⟨z, 1, none⟩ (.bool gm)) rfl
      refine ⟨?_, hbz⟩
      rcases HOR.out with ⟨h2, hb⟩ | ⟨i, h2, hc, hb⟩
      · rw [h2]
        exact HCK.out.keep (((HZW.out.trans (hb.mono HZW.out.size)).setCell (p := ⟨z, 0, none⟩) (Nat.le_of_eq hz) (.int .u8 gv)).setCell (p := ⟨z, 1, none⟩) (Nat.le_of_eq hz) (.bool gm))
      · rw [h2]
        obtain ⟨P0, n0, c0, Q0, m0, d0, hk1, _⟩ := hc.er
        exact HCK.out.put hbz (chg_two hk1 HZ1.out (Ne.symm HFK.out)) (fun s' hs' => by cases hs') hc.ne
    have HCK := Lib.hid hboth.1
    have HBT := Lib.hid (HBT.out.trans hboth.2)
    clear z0 z1 zp0 zp1 zl hz HBB' hboth
    generalize (w1.setCell ⟨z, 0, none⟩ (.int .u8 gv)).setCell ⟨z, 1, none⟩ (.bool gm) = w2 at *
    clear b0 b1 b4 bl hkh e0 e1 e2 e3 e4 e5 e6 ekl
    obtain ⟨f0, f1⟩ := cells2 HF.out
    go_wp2_with fail
    clear f0 f1
    refine (need_ck HCK.out (by decide)).mono ?_
    rintro e w3 ⟨rfl, hc, hbt⟩
    have HF := Lib.hid ((hbt.block z (lt_of_heap HF.out) HFK.out).trans HF.out)
    have HBT := Lib.hid (HBT.out.trans hbt)
    have HCK := Lib.hid hc
    clear hc hbt
    obtain ⟨f0, f1⟩ := cells2 HF.out
    have fl := lt_of_heap HF.out
    go_wp2_with fail
    clear f0 f1 fl
    have HNW := Lib.hid (below_new w3 (.cells #[.int .u8 gv] 5))
    have HLR := Lib.hid (row_lit1 w3 gv HRG.out)
    refine (want_ck (HCK.out.keep HNW.out) (HB0.out.need.need.mono (by omega) : Bd (needR gm 5 (namedR E.globs A (.ok s))) 400000) HLR.out (by simp)).mono ?_
    rintro e w4 ⟨rfl, hc, hbt⟩
    have HBT := Lib.hid ((HBT.out.trans (But.of_below HNW.out)).trans hbt)
    have HCK := Lib.hid hc
    clear hc hbt
    go_wp2_with fail
    exact bodyPost_end (v := .tuple #[]) (by simp [results, Tryz.results95, go_sem]) rfl ⟨rfl, by first | exact HCK.out | (rw [HGL.out]; exact HCK.out), HBT.out⟩))
end Go.Proofs.YtlappkflnlbfcaaGreatDoor.Chk
end

section
/- How many digits a number has: walked. -/
namespace Go.Proofs.YtlappkflnlbfcaaGreatDoor.Chk
open Go.RowKit Row9 Stk
set_option maxRecDepth 100000
set_option maxHeartbeats 2000000
set_option linter.unusedVariables false
theorem ret_int {k : IntKind} {x y : Int} (h : x = y) : Ending.returned (.int k x) = Ending.returned (.int k y) := by rw [h]
theorem tab_size : Lib.len8tab.size = 256 := by decide +kernel
theorem tab_all : ∀ n : Fin 256, (Lib.len8tab[n.val]'(by rw [tab_size]; exact n.isLt)).toNat = Lib.bitLen n.val := by decide +kernel
theorem tab_get (y : Int) (h : y.toNat < Lib.len8tab.size) : (Lib.len8tab[y.toNat]'h).toNat = Lib.bitLen y.toNat := tab_all ⟨y.toNat, by rw [← tab_size]; exact h⟩

theorem len64_sum (k m : Nat) (hk : k ≤ 56) (l : m ≤ 8) : wrap64 ((k : Int) + wrap64 (m : Int)) = ((k + m : Nat) : Int) := by
  unfold wrap64
  omega
theorem len64_ways (x y s : Int) (k : Nat) (hx : 0 ≤ x) (hx1 : x ≤ 18446744073709551615) (hy : y = x / 2 ^ k) (hlo : k = 0 ∨ 2 ^ k ≤ x.toNat) (hhi : y < 256) (hs : s = k) (hk : k ≤ 56) (h : y.toNat < Lib.len8tab.size) :
    wrap64 (s + wrap64 ((Lib.len8tab[y.toNat]'h).toNat : Int)) = (Lib.bitLen x.toNat : Int) := by
  rw [tab_get]
  subst hy hs
  have h0 : (0 : Int) ≤ x / 2 ^ k := Int.ediv_nonneg hx (Int.pow_nonneg (by omega))
  have e : x / 2 ^ k = ((x.toNat / 2 ^ k : Nat) : Int) := by
    rw [Int.natCast_ediv, Int.toNat_of_nonneg hx]; simp
  have l := Lib.bitLen_le8' _ h0 (by omega : x / 2 ^ k ≤ 255)
  rw [e, Int.toNat_natCast] at l ⊢
  have hx2 : x.toNat < 2 ^ 64 := by omega
  have hb : Lib.bitLen x.toNat = k + Lib.bitLen (x.toNat / 2 ^ k) := by
    rcases hlo with rfl | hlo
    · simp
    · exact Lib.bitLen_shift k x.toNat hlo hx2
  rw [hb]
  clear hb hx2 e h0 hlo hhi h hx hx1
  revert l
  generalize Lib.bitLen (x.toNat / 2 ^ k) = m
  intro l
  exact len64_sum k m hk l

theorem len64_any (x : Int) (w : World) (h0 : 0 ≤ x) (h1 : x ≤ 18446744073709551615) : Calls Tryz.prog 161 #[.int .u64 x] w fun e w' => e = .returned (.int .i64 (Lib.bitLen x.toNat)) ∧ w' = w := by
  have hs : (Lib.len8tab.size : Int) = 256 := by rw [tab_size]; rfl
  go_enter Tryz.func161, Tryz.ntmps161
  go_wp2
  all_goals (go_ret; refine ⟨ret_int ?_, rfl⟩)
  all_goals first
    | exact len64_ways x _ 56 56 h0 h1 (by omega) (by omega) (by omega) rfl (by omega) _
    | exact len64_ways x _ 48 48 h0 h1 (by omega) (by omega) (by omega) rfl (by omega) _
    | exact len64_ways x _ 40 40 h0 h1 (by omega) (by omega) (by omega) rfl (by omega) _
    | exact len64_ways x _ 32 32 h0 h1 (by omega) (by omega) (by omega) rfl (by omega) _
    | exact len64_ways x _ 24 24 h0 h1 (by omega) (by omega) (by omega) rfl (by omega) _
    | exact len64_ways x _ 16 16 h0 h1 (by omega) (by omega) (by omega) rfl (by omega) _
    | exact len64_ways x _ 8 8 h0 h1 (by omega) (by omega) (by omega) rfl (by omega) _
    | exact len64_ways x _ 0 0 h0 h1 (by omega) (by omega) (by omega) rfl (by omega) _
    | (have := len64_ways x x 0 0 h0 h1 (by omega) (by omega) (by omega) rfl (by omega) (by rw [tab_size]; omega); simpa using this)

theorem len_any (x : Int) (w : World) (h0 : 0 ≤ x) (h1 : x ≤ 18446744073709551615) : Calls Tryz.prog 135 #[.int .u64 x] w fun e w' => e = .returned (.int .i64 (Lib.bitLen x.toNat)) ∧ w' = w := by
  have HL := Lib.hid (len64_any x w h0 h1)
  generalize (Lib.bitLen x.toNat : Int) = r at *
  clear h0 h1
  go_enter Tryz.func135, Tryz.ntmps135
  go_wp2_with fail
  refine HL.out.mono ?_
  rintro e w1 ⟨rfl, rfl⟩
  go_wp2_with fail
  exact bodyPost_ret (v := .int .i64 r) (by simp [results, Tryz.results135, go_sem]) rfl ⟨rfl, rfl⟩
theorem len_fit (n A : Int) (h : n = 1 ∨ n = 2 ∨ n = 4 ∨ n = 8) : decide (A < (Lib.bitLen n.toNat : Int)) = fitA A n := by
  have e1 : Lib.bitLen (1 : Int).toNat = 1 := by decide +kernel
  have e2 : Lib.bitLen (2 : Int).toNat = 2 := by decide +kernel
  have e4 : Lib.bitLen (4 : Int).toNat = 3 := by decide +kernel
  have e8 : Lib.bitLen (8 : Int).toNat = 4 := by decide +kernel
  unfold fitA
  rcases h with rfl | rfl | rfl | rfl
  · rw [e1]
    by_cases a : A ≤ 0
    · rw [decide_eq_true (show A < ((1 : Nat) : Int) by omega), decide_eq_true a]; rfl
    · rw [decide_eq_false (show ¬ A < ((1 : Nat) : Int) by omega), decide_eq_false a]; simp
  · rw [e2]
    by_cases a : A ≤ 1
    · rw [decide_eq_true (show A < ((2 : Nat) : Int) by omega), decide_eq_true a]; simp
    · rw [decide_eq_false (show ¬ A < ((2 : Nat) : Int) by omega), decide_eq_false a, decide_eq_false (show ¬ A ≤ 0 by omega)]; simp
  · rw [e4]
    by_cases a : A ≤ 2
    · rw [decide_eq_true (show A < ((3 : Nat) : Int) by omega), decide_eq_true a]; simp
    · rw [decide_eq_false (show ¬ A < ((3 : Nat) : Int) by omega), decide_eq_false a, decide_eq_false (show ¬ A ≤ 1 by omega), decide_eq_false (show ¬ A ≤ 0 by omega)]; simp
  · rw [e8]
    by_cases a : A ≤ 3
    · rw [decide_eq_true (show A < ((4 : Nat) : Int) by omega), decide_eq_true a]; simp
    · rw [decide_eq_false (show ¬ A < ((4 : Nat) : Int) by omega), decide_eq_false a, decide_eq_false (show ¬ A ≤ 2 by omega), decide_eq_false (show ¬ A ≤ 1 by omega), decide_eq_false (show ¬ A ≤ 0 by omega)]; simp
theorem ax_six {op : Int} (h : Ins.kd op = 6) : ((Ins.ax op).2.1 = 1 ∨ (Ins.ax op).2.1 = 2 ∨ (Ins.ax op).2.1 = 4 ∨ (Ins.ax op).2.1 = 8) ∧ ((Ins.ax op).1 = 127 ∨ (Ins.ax op).1 = 126) := by
  have h2 : op = 40 ∨ op = 41 ∨ op = 44 ∨ op = 45 ∨ op = 46 ∨ op = 47 ∨ op = 48 ∨ op = 49 ∨ op = 50 ∨ op = 51 ∨ op = 52 ∨ op = 53 ∨ op = 54 ∨ op = 55 ∨ op = 58 ∨ op = 59 ∨ op = 60 ∨ op = 61 ∨ op = 62 := by
    unfold Ins.kd at h
    split at h
    · exact absurd h (by decide)
    · split at h
      · exact absurd h (by decide)
      · split at h
        · exact absurd h (by decide)
        · split at h
          · exact absurd h (by decide)
          · split at h
            · omega
            · repeat (first | omega | (split at h))
  rcases h2 with rfl | rfl | rfl | rfl | rfl | rfl | rfl | rfl | rfl | rfl | rfl | rfl | rfl | rfl | rfl | rfl | rfl | rfl | rfl <;> decide
end Go.Proofs.YtlappkflnlbfcaaGreatDoor.Chk
end
