/- ChkAcc, ChkInd, ChkTab, ChkTake, ChkTk1. -/
import Derived.Test.YtlappkflnlbfcaaGreatDoorPkChkLen
import Derived.Deep.RegionLaw
import Derived.Test.YtlappkflnlbfcaaGreatDoorPkChkI0
import Derived.Test.YtlappkflnlbfcaaGreatDoorPkChkPlain
import Derived.Test.YtlappkflnlbfcaaGreatDoorPkInsFrame
section
/- Loads and stores: walked (gen_ckm3.py). -/
namespace Go.Proofs.YtlappkflnlbfcaaGreatDoor.Chk
open Go.RowKit Row9 Stk
set_option maxRecDepth 100000
set_option maxHeartbeats 8000000
set_option linter.unusedVariables false
theorem access_ck {w : World} {k : Nat} {V : EV} {E : EnvP} {s : Stk} {op A B K : Int} {lab : Value} (h : Cx w k V E (.ok s)) (hb : Bd (.ok s) 300000) (hk : Ins.kd op = 6) (hT : Ins.ATab w) : Calls Tryz.prog 98 #[.pointer (some ⟨k, 0, none⟩), .agg #[.int .i64 op, .int .i64 A, .int .i64 B, .int .u64 K, lab]] w (CkEnds w k V E (accessR E op A s) (.tuple #[])) := by
  have HS6 := Lib.hid (ax_six hk)
  have HTA := Lib.hid (hT.keep (below_new w (.cells #[.int .i64 op, .int .i64 A, .int .i64 B, .int .u64 K, lab] 33)))
  have HAC := Lib.hid (Ins.access_any op (w.alloc (.cells #[.int .i64 op, .int .i64 A, .int .i64 B, .int .u64 K, lab] 33)) HTA.out)
  clear hk hT
  have HD : Hid (accessR E op A s = if (Ins.ax op).2.2.2 = true then wantR [127, (Ins.ax op).1] (needR (fitA A (Ins.ax op).2.1) 5 (needR (decide (1 ≤ E.mems)) 6 (.ok s))) else pushR [(Ins.ax op).1] (wantR [127] (needR (fitA A (Ins.ax op).2.1) 5 (needR (decide (1 ≤ E.mems)) 6 (.ok s))))) := rfl
  obtain ⟨bm, hbm⟩ : ∃ bm, decide (1 ≤ E.mems) = bm := ⟨_, rfl⟩
  rw [hbm] at HD
  generalize Ins.ax op = x at *
  obtain ⟨T, n, sg, st⟩ := x
  simp only at HD HS6 HAC
  have hn0 : 0 ≤ n ∧ n ≤ 8 := by have := HS6.out.1; omega
  have HFT := Lib.hid (len_fit n A HS6.out.1)
  obtain ⟨r, hr⟩ : ∃ r : Int, (Lib.bitLen n.toNat : Int) = r := ⟨_, rfl⟩
  rw [hr] at HFT
  have HTR : Hid (0 ≤ T ∧ T < 256) := Lib.hid (by have := HS6.out.2; omega)
  obtain ⟨bf, hbf⟩ : ∃ bf, decide (A < r) = bf := ⟨_, rfl⟩
  have HFA : Hid (fitA A n = bf) := HFT.out.symm.trans hbf
  rw [HFA.out] at HD
  have hcv : IntKind.u64.wrap n = n := IntWalk.u64_in _ (by omega)
  have HCK := Lib.hid h
  have HB0 := Lib.hid hb
  have HBT : Hid (But k w (w.alloc (.cells #[.int .i64 op, .int .i64 A, .int .i64 B, .int .u64 K, lab] 33))) := But.of_below (below_new w (.cells #[.int .i64 op, .int .i64 A, .int .i64 B, .int .u64 K, lab] 33))
  have HCK := Lib.hid (h.keep (below_new w (.cells #[.int .i64 op, .int .i64 A, .int .i64 B, .int .u64 K, lab] 33)))
  have HX := Lib.hid (heap_new w (.cells #[.int .i64 op, .int .i64 A, .int .i64 B, .int .u64 K, lab] 33))
  have HSZ : Hid ((w.alloc (.cells #[.int .i64 op, .int .i64 A, .int .i64 B, .int .u64 K, lab] 33)).heap.size = w.heap.size + 1) := size_new _ _
  have HYK : Hid (w.heap.size ≠ k) := Lib.hid (by have := h.lt; omega)
  clear h hb
  obtain ⟨b0, b1, b4⟩ := cells5 HX.out
  have bl := lt_of_heap HX.out
  go_enter Tryz.func98, Tryz.ntmps98
  go_wp2_with fail
  clear b0 b1 b4 bl
  generalize w.alloc (.cells #[.int .i64 op, .int .i64 A, .int .i64 B, .int .u64 K, lab] 33) = u0 at *
  obtain ⟨y, hy⟩ : ∃ y, w.heap.size = y := ⟨_, rfl⟩
  rw [hy] at HX HYK HSZ
  simp only [hy]
  clear hy
  refine (HAC.out).mono ?_
  rintro e w1 ⟨rfl, hb⟩
  have HX := Lib.hid (blk HX.out hb)
  have HBT := Lib.hid (HBT.out.trans (But.of_below hb))
  have HCK := Lib.hid (HCK.out.keep hb)
  clear hb
  obtain ⟨_, _, _, _, _, _, _, hkh⟩ := HCK.out.heap
  obtain ⟨e0, e1, e2, e3, e4, e5, e6⟩ := ckcells hkh
  have ekl := lt_of_heap hkh
  go_wp2_with fail
  clear hkh e0 e1 e2 e3 e4 e5 e6 ekl
  refine (need_ck HCK.out (by decide)).mono ?_
  rintro e w2 ⟨rfl, hc, hbt⟩
  have HX := Lib.hid ((hbt.block y (lt_of_heap HX.out) HYK.out).trans HX.out)
  have HBT := Lib.hid (HBT.out.trans hbt)
  have HCK := Lib.hid hc
  clear hc hbt
  have HLN := Lib.hid (len_any n w2.drew (by omega) (by omega))
  rw [hr] at HLN
  have HDw := Lib.hid (below_drew1 w2)
  obtain ⟨b0, b1, b4⟩ := cells5 HX.out
  have bl := lt_of_heap HX.out
  go_wp2_with fail
  cases st
  · skip
    go_region_law (first
      | (go_simp; go_at_call 135; (with_reducible refine Calls.mono HLN.out ?_); rintro e w3 ⟨rfl, hw3⟩; obtain rfl := hw3)
      | (go_simp; go_at_call 59; refine Calls.mono (need_ck (b := bf) (i := 5) (HCK.out.keep HDw.out) (by decide)) ?_; rintro e w4 ⟨rfl, hc, hbt⟩; have HBT4 := Lib.hid ((HBT.out.trans (But.of_below HDw.out)).trans hbt); have HCK4 := Lib.hid hc; clear hc hbt))
    all_goals (
      clear b0 b1 b4 bl
      go_wp2_with fail
      have HBT := Lib.hid HBT4.out
      have HCK := Lib.hid HCK4.out
      have HNW := Lib.hid (below_new w4 (.cells #[.int .u8 127] 5))
      have HLR := Lib.hid (row_lit1 w4 127 ⟨by omega, by omega⟩)
      have HBT := Lib.hid (HBT.out.trans (But.of_below HNW.out))
      have HCK := Lib.hid (HCK.out.keep HNW.out)
      refine (want_ck HCK.out (HB0.out.need.need.mono (by omega) : Bd (needR bf 5 (needR bm 6 (.ok s))) 400000) HLR.out (by simp)).mono ?_
      rintro e w5 ⟨rfl, hc, hbt⟩
      have HBT := Lib.hid (HBT.out.trans hbt)
      have HCK := Lib.hid hc
      clear hc hbt
      go_wp2_with fail
      have HNW := Lib.hid (below_new w5 (.cells #[.int .u8 T] 5))
      have HLR := Lib.hid (row_lit1 w5 T HTR.out)
      have HBT := Lib.hid (HBT.out.trans (But.of_below HNW.out))
      have HCK := Lib.hid (HCK.out.keep HNW.out)
      refine (push_ck HCK.out (HB0.out.need.need.want.mono (by omega) : Bd (wantR [127] (needR bf 5 (needR bm 6 (.ok s)))) 400000) HLR.out (by simp)).mono ?_
      rintro e w6 ⟨rfl, hc, hbt⟩
      have HBT := Lib.hid (HBT.out.trans hbt)
      have HCK := Lib.hid hc
      clear hc hbt
      go_wp2_with fail
      exact bodyPost_end (v := .tuple #[]) (by simp [results, Tryz.results98, go_sem]) rfl ⟨rfl, by rw [HD.out]; exact HCK.out, HBT.out⟩)
  · skip
    go_region_law (first
      | (go_simp; go_at_call 135; (with_reducible refine Calls.mono HLN.out ?_); rintro e w3 ⟨rfl, hw3⟩; obtain rfl := hw3)
      | (go_simp; go_at_call 59; refine Calls.mono (need_ck (b := bf) (i := 5) (HCK.out.keep HDw.out) (by decide)) ?_; rintro e w4 ⟨rfl, hc, hbt⟩; have HBT4 := Lib.hid ((HBT.out.trans (But.of_below HDw.out)).trans hbt); have HCK4 := Lib.hid hc; clear hc hbt))
    all_goals (
      clear b0 b1 b4 bl
      go_wp2_with fail
      have HBT := Lib.hid HBT4.out
      have HCK := Lib.hid HCK4.out
      have HNW := Lib.hid (below_new w4 (.cells #[.int .u8 127, .int .u8 T] 5))
      have HLR := Lib.hid (row_lit2 w4 127 T ⟨by omega, by omega⟩ HTR.out)
      have HBT := Lib.hid (HBT.out.trans (But.of_below HNW.out))
      have HCK := Lib.hid (HCK.out.keep HNW.out)
      refine (want_ck HCK.out (HB0.out.need.need.mono (by omega) : Bd (needR bf 5 (needR bm 6 (.ok s))) 400000) HLR.out (by simp)).mono ?_
      rintro e w5 ⟨rfl, hc, hbt⟩
      have HBT := Lib.hid (HBT.out.trans hbt)
      have HCK := Lib.hid hc
      clear hc hbt
      go_wp2_with fail
      exact bodyPost_end (v := .tuple #[]) (by simp [results, Tryz.results98, go_sem]) rfl ⟨rfl, by rw [HD.out]; exact HCK.out, HBT.out⟩)
end Go.Proofs.YtlappkflnlbfcaaGreatDoor.Chk
end

section
/- Calls through a table: walked (gen_ckm3.py). -/
namespace Go.Proofs.YtlappkflnlbfcaaGreatDoor.Chk
open Go.RowKit Row9 Stk
set_option maxRecDepth 100000
set_option maxHeartbeats 8000000
set_option linter.unusedVariables false
theorem StIs.setg {e : TypeId} {hi} {W : World} {y i : Nat} {u v : Value} {s : Stk} {A A' : Option Addr} {n c n' c' : Nat} {t : TypeId} (h : StIs (elCt e hi) W v s) (hy : W.heap[y]? = some (.cells #[.slice A n c, .slice A' n' c'] t (0, 0))) : StIs (elCt e hi) (W.setCell ⟨y, i, none⟩ u) v s := by
  obtain ⟨a, b, l, h1, h2, h3, h4⟩ := h
  have hb : ∀ {v : Value} {l : List Int}, Row elB W v l → Row elB (W.setCell ⟨y, i, none⟩ u) v l := fun h => row_box (T := elB) (fun a => ⟨.u8, a, rfl⟩) (fun p hp => hp) h hy
  exact ⟨a, b, l, h1, hb h2, row_box (T := elCt e hi) (fun a => ⟨.i64, a.1.op, rfl⟩) (fun p hp => ⟨hb hp.1, hp.2⟩) h3 hy, h4⟩
theorem but_z2 {k z : Nat} {w w3 : World} {a b : Value} (h : But k w w3) (hz : w.heap.size ≤ z) : But k w ((w3.setCell ⟨z, 0, none⟩ a).setCell ⟨z, 1, none⟩ b) := by
  refine ⟨h.os, h.tape, h.output, by simp only [set_size]; exact h.size, fun j hj hne => ?_⟩
  have h1 : j ≠ z := by omega
  rw [chg_set _ z 1 b j (by rw [set_size]; exact Nat.lt_of_lt_of_le hj h.size) (fun e => h1 (Option.some.inj e)), chg_set w3 z 0 a j (Nat.lt_of_lt_of_le hj h.size) (fun e => h1 (Option.some.inj e))]
  exact h.block j hj hne
/-- A box of two slices, beside the checker, is stored. -/
theorem cx_box2 {w w0 wz : World} {k z : Nat} {V : EV} {E : EnvP} {x x0 : Rs} (h : Cx w k V E x) (hz : w.heap[z]? = some (.cells #[.slice none 0 0, .slice none 0 0] 51 (0, 0))) (hk : z ≠ k) (h0 : w0.heap.size ≤ z) (hc : Cx w0 k V E x0) (hb : Below w0.heap.size w0 wz) {P : Option Addr} {n c : Nat} {Q : Option Addr} {m d : Nat} : Cx ((w.setCell ⟨z, 0, none⟩ (.slice P n c)).setCell ⟨z, 1, none⟩ (.slice Q m d)) k V E x := by
  obtain ⟨⟨P0, n0, c0, Q0, m0, d0, h1, h2⟩, h3, w1, e1, e2, e3⟩ := h
  have hkz : k ≠ z := Ne.symm hk
  have hlt := hc.lt
  refine ⟨⟨P0, n0, c0, Q0, m0, d0, chg_two h1 hz hkz, fun s hs => StIs.setg (e := 72) (hi := infoP) (StIs.setg (e := 72) (hi := infoP) (h2 s hs) hz) (by rw [set_heap hz]; rfl : (w.setCell ⟨z, 0, none⟩ (.slice P n c)).heap[z]? = some (Obj.cells #[.slice P n c, .slice none 0 0] 51 (0, 0)))⟩, h3, w1, e1, e2, ?_⟩
  have hzw : w1.heap.size ≤ z := by omega
  exact (e3.setCell (p := ⟨z, 0, none⟩) hzw (.slice P n c)).setCell (p := ⟨z, 1, none⟩) hzw (.slice Q m d)
theorem callInd_ck {w : World} {k : Nat} {V : EV} {E : EnvP} {s : Stk} {op A B K : Int} {lab : Value} (h : Cx w k V E (.ok s)) (hb : Bd (.ok s) 300000) (hf : FnBd E) (hA : w64 A) : Calls Tryz.prog 97 #[.pointer (some ⟨k, 0, none⟩), .agg #[.int .i64 op, .int .i64 A, .int .i64 B, .int .u64 K, lab]] w (CkEnds w k V E (callIR E A s) (.tuple #[])) := by
  have HA := Lib.hid hA
  have HFB := Lib.hid hf
  clear hf hA
  have HD : Hid (callIR E A s = callR ((atL E.types A).getD ([], [])) (wantR [127] (namedR E.types A (needR (decide (1 ≤ E.tables)) 6 (.ok s))))) := rfl
  obtain ⟨bm, hbm⟩ : ∃ bm, decide (1 ≤ E.tables) = bm := ⟨_, rfl⟩
  rw [hbm] at HD
  have HCK := Lib.hid h
  have HB0 := Lib.hid hb
  have HBT : Hid (But k w (w.alloc (.cells #[.int .i64 op, .int .i64 A, .int .i64 B, .int .u64 K, lab] 33))) := But.of_below (below_new w (.cells #[.int .i64 op, .int .i64 A, .int .i64 B, .int .u64 K, lab] 33))
  have HCK := Lib.hid (h.keep (below_new w (.cells #[.int .i64 op, .int .i64 A, .int .i64 B, .int .u64 K, lab] 33)))
  have HX := Lib.hid (heap_new w (.cells #[.int .i64 op, .int .i64 A, .int .i64 B, .int .u64 K, lab] 33))
  have HSZ : Hid ((w.alloc (.cells #[.int .i64 op, .int .i64 A, .int .i64 B, .int .u64 K, lab] 33)).heap.size = w.heap.size + 1) := size_new _ _
  have HYK : Hid (w.heap.size ≠ k) := Lib.hid (by have := h.lt; omega)
  clear h hb
  obtain ⟨_, _, _, _, _, _, _, hkh⟩ := HCK.out.heap
  obtain ⟨e0, e1, e2, e3, e4, e5, e6⟩ := ckcells hkh
  have ekl := lt_of_heap hkh
  go_enter Tryz.func97, Tryz.ntmps97
  go_wp2_with fail
  clear hkh e0 e1 e2 e3 e4 e5 e6 ekl
  generalize w.alloc (.cells #[.int .i64 op, .int .i64 A, .int .i64 B, .int .u64 K, lab] 33) = u0 at *
  obtain ⟨y, hy⟩ : ∃ y, w.heap.size = y := ⟨_, rfl⟩
  rw [hy] at HX HYK HSZ
  simp only [hy]
  clear hy
  refine (need_ck HCK.out (by decide)).mono ?_
  rintro e w1 ⟨rfl, hc, hbt⟩
  have HX := Lib.hid ((hbt.block y (lt_of_heap HX.out) HYK.out).trans HX.out)
  have HBT := Lib.hid (HBT.out.trans hbt)
  have HCK := Lib.hid hc
  clear hc hbt
  have HDw := Lib.hid (below_drew1 w1)
  obtain ⟨ts, hts, hmt⟩ := HCK.out.env.t
  have HMT := Lib.hid hmt
  have HNM := Lib.hid (named_fn (n := A) (HCK.out.keep HDw.out) (hts.keep HDw.out))
  rw [hmt] at HNM
  have HZW := Lib.hid ((below_new w1 (.cells #[.slice none 0 0, .slice none 0 0] 51)).drew)
  have HZ0 := Lib.hid (show ((w1.alloc (.cells #[.slice none 0 0, .slice none 0 0] 51)).drew).heap[w1.heap.size]? = _ from heap_new w1 (.cells #[.slice none 0 0, .slice none 0 0] 51))
  have HZK : Hid (w1.heap.size ≠ k) := Lib.hid (by have := HCK.out.lt; omega)
  have HNZ := Lib.hid (named_fn (n := A) (HCK.out.keep HZW.out) (hts.keep HZW.out))
  rw [hmt] at HNZ
  clear hts hmt
  have HTB := Lib.hid (atL_bd HFB.out A)
  generalize (atL E.types A).getD ([], []) = f at *
  obtain ⟨b0, b1, b4⟩ := cells5 HX.out
  have bl := lt_of_heap HX.out
  obtain ⟨_, _, _, _, _, _, _, hkh⟩ := HCK.out.heap
  obtain ⟨e0, e1, e2, e3, e4, e5, e6⟩ := ckcells hkh
  have ekl := lt_of_heap hkh
  go_wp2_with fail
  go_region_law (first
    | (go_simp; go_at_call 133; (with_reducible refine Calls.mono HNM.out ?_); rintro e w2 ⟨P1, n1, c1, Q1, m1, d1, rfl, hr1, hr2, hc, hbt⟩; have HBTA := Lib.hid ((HBT.out.trans (But.of_below HDw.out)).trans hbt); have HCKA := Lib.hid hc; have HR1 := Lib.hid hr1; have HR2 := Lib.hid hr2; have HX1 := Lib.hid ((hbt.block y (lt_of_heap (blk HX.out HDw.out)) HYK.out).trans (blk HX.out HDw.out)); obtain ⟨b0, b1, b4⟩ := cells5 HX1.out; have bl := lt_of_heap HX1.out; clear hc hbt hr1 hr2)
    | (go_simp; go_at_call 133; (with_reducible refine Calls.mono HNZ.out ?_); rintro e w2 ⟨P1, n1, c1, Q1, m1, d1, rfl, hr1, hr2, hc, hbt⟩; have HBTB := Lib.hid ((HBT.out.trans (But.of_below HZW.out)).trans hbt); have HCKB := Lib.hid hc; have HR1 := Lib.hid hr1; have HR2 := Lib.hid hr2; have HX1 := Lib.hid ((hbt.block y (lt_of_heap (blk HX.out HZW.out)) HYK.out).trans (blk HX.out HZW.out)); have HZ1 := Lib.hid ((hbt.block w1.heap.size (lt_of_heap HZ0.out) HZK.out).trans HZ0.out); obtain ⟨z0, z1⟩ := cells2 HZ1.out; have zp0 := (cells_at HZ1.out 0).2; have zp1 := (cells_at HZ1.out 1).2; have zl := lt_of_heap HZ1.out; obtain ⟨b0, b1, b4⟩ := cells5 HX1.out; have bl := lt_of_heap HX1.out; clear hc hbt hr1 hr2))
  all_goals (first
  | (
    have HBT := Lib.hid (HBTA.out.trans (But.of_below (below_new w2 (.cells #[.slice P1 n1 c1, .slice Q1 m1 d1] 51))))
    have HCK := Lib.hid (HCKA.out.keep (below_new w2 (.cells #[.slice P1 n1 c1, .slice Q1 m1 d1] 51)))
    have HR1 := Lib.hid (HR1.out.keep (below_new w2 (.cells #[.slice P1 n1 c1, .slice Q1 m1 d1] 51)))
    have HR2 := Lib.hid (HR2.out.keep (below_new w2 (.cells #[.slice P1 n1 c1, .slice Q1 m1 d1] 51)))
    have HF := Lib.hid (heap_new w2 (.cells #[.slice P1 n1 c1, .slice Q1 m1 d1] 51))
    have HFK0 : Hid (w2.heap.size ≠ k) := Lib.hid (by have := HCKA.out.lt; omega)
    obtain ⟨z, hz⟩ : ∃ z, w2.heap.size = z := ⟨_, rfl⟩
    have HFK : Hid (z ≠ k) := Lib.hid (by rw [← hz]; exact HFK0.out)
    rw [hz] at HF
    simp only [hz]
    clear hz HFK0
    generalize w2.alloc (.cells #[.slice P1 n1 c1, .slice Q1 m1 d1] 51) = w3 at *
    clear b0 b1 b4 bl hkh e0 e1 e2 e3 e4 e5 e6 ekl
    go_wp2_with fail
    have HNW := Lib.hid (below_new w3 (.cells #[.int .u8 127] 5))
    have HLR := Lib.hid (row_lit1 w3 127 ⟨by omega, by omega⟩)
    have HF := Lib.hid (blk HF.out HNW.out)
    have HR1 := Lib.hid (HR1.out.keep HNW.out)
    have HR2 := Lib.hid (HR2.out.keep HNW.out)
    have HBT := Lib.hid (HBT.out.trans (But.of_below HNW.out))
    have HCK := Lib.hid (HCK.out.keep HNW.out)
    refine (want_ck HCK.out (HB0.out.need.need.mono (by omega) : Bd (namedR E.types A (needR bm 6 (.ok s))) 400000) HLR.out (by simp)).mono ?_
    rintro e w4 ⟨rfl, hc, hbt⟩
    have HF := Lib.hid ((hbt.block z (lt_of_heap HF.out) HFK.out).trans HF.out)
    have HR1 := Lib.hid (rowB_apart HR1.out HCK.out.nobb hbt)
    have HR2 := Lib.hid (rowB_apart HR2.out HCK.out.nobb hbt)
    have HBT := Lib.hid (HBT.out.trans hbt)
    have HCK := Lib.hid hc
    clear hc hbt
    obtain ⟨f0, f1⟩ := cells2 HF.out
    go_wp2_with fail
    clear f0 f1
    refine (call_ck HCK.out (HB0.out.need.need.want.mono (by omega) : Bd (wantR [127] (namedR E.types A (needR bm 6 (.ok s)))) 300000) HR1.out HR2.out HTB.out.1 HTB.out.2).mono ?_
    rintro e w5 ⟨rfl, hc, hbt⟩
    have HBT := Lib.hid (HBT.out.trans hbt)
    have HCK := Lib.hid hc
    clear hc hbt
    go_wp2_with fail
    exact bodyPost_end (v := .tuple #[]) (by simp [results, Tryz.results97, go_sem]) rfl ⟨rfl, by rw [HD.out]; exact HCK.out, HBT.out⟩)
  | (
    have HBB' := Lib.hid HBTB.out
    obtain ⟨z, hz⟩ : ∃ z, w1.heap.size = z := ⟨_, rfl⟩
    have HFK : Hid (z ≠ k) := Lib.hid (by rw [← hz]; exact HZK.out)
    rw [hz] at HZ1
    simp only [hz]
    have HF := Lib.hid (store2 HZ1.out (.slice P1 n1 c1) (.slice Q1 m1 d1))
    have hrl := HCK.out.lt
    have hbz := cx_box2 HCKB.out HZ1.out HFK.out (Nat.le_of_eq hz) HCK.out (HZW.out) (P := P1) (n := n1) (c := c1) (Q := Q1) (m := m1) (d := d1)
    have HR1 := Lib.hid (rowB_box (rowB_box HR1.out HZ1.out (i := 0) (u := .slice P1 n1 c1)) (set_heap HZ1.out _) (i := 1) (u := .slice Q1 m1 d1))
    have HR2 := Lib.hid (rowB_box (rowB_box HR2.out HZ1.out (i := 0) (u := .slice P1 n1 c1)) (set_heap HZ1.out _) (i := 1) (u := .slice Q1 m1 d1))
    have HCK := Lib.hid hbz
    have HBT : Hid (But k w ((w2.setCell ⟨z, 0, none⟩ (.slice P1 n1 c1)).setCell ⟨z, 1, none⟩ (.slice Q1 m1 d1))) := but_z2 HBTB.out (Nat.le_trans HBT.out.size (Nat.le_of_eq hz))
    clear z0 z1 zp0 zp1 zl hz HBB' hbz hrl
    generalize (w2.setCell ⟨z, 0, none⟩ (.slice P1 n1 c1)).setCell ⟨z, 1, none⟩ (.slice Q1 m1 d1) = w3 at *
    clear b0 b1 b4 bl hkh e0 e1 e2 e3 e4 e5 e6 ekl
    go_wp2_with fail
    have HNW := Lib.hid (below_new w3 (.cells #[.int .u8 127] 5))
    have HLR := Lib.hid (row_lit1 w3 127 ⟨by omega, by omega⟩)
    have HF := Lib.hid (blk HF.out HNW.out)
    have HR1 := Lib.hid (HR1.out.keep HNW.out)
    have HR2 := Lib.hid (HR2.out.keep HNW.out)
    have HBT := Lib.hid (HBT.out.trans (But.of_below HNW.out))
    have HCK := Lib.hid (HCK.out.keep HNW.out)
    refine (want_ck HCK.out (HB0.out.need.need.mono (by omega) : Bd (namedR E.types A (needR bm 6 (.ok s))) 400000) HLR.out (by simp)).mono ?_
    rintro e w4 ⟨rfl, hc, hbt⟩
    have HF := Lib.hid ((hbt.block z (lt_of_heap HF.out) HFK.out).trans HF.out)
    have HR1 := Lib.hid (rowB_apart HR1.out HCK.out.nobb hbt)
    have HR2 := Lib.hid (rowB_apart HR2.out HCK.out.nobb hbt)
    have HBT := Lib.hid (HBT.out.trans hbt)
    have HCK := Lib.hid hc
    clear hc hbt
    obtain ⟨f0, f1⟩ := cells2 HF.out
    go_wp2_with fail
    clear f0 f1
    refine (call_ck HCK.out (HB0.out.need.need.want.mono (by omega) : Bd (wantR [127] (namedR E.types A (needR bm 6 (.ok s)))) 300000) HR1.out HR2.out HTB.out.1 HTB.out.2).mono ?_
    rintro e w5 ⟨rfl, hc, hbt⟩
    have HBT := Lib.hid (HBT.out.trans hbt)
    have HCK := Lib.hid hc
    clear hc hbt
    go_wp2_with fail
    exact bodyPost_end (v := .tuple #[]) (by simp [results, Tryz.results97, go_sem]) rfl ⟨rfl, by rw [HD.out]; exact HCK.out, HBT.out⟩))
end Go.Proofs.YtlappkflnlbfcaaGreatDoor.Chk
end

section
/- Tables of labels: walked (gen_ckm3.py). -/
namespace Go.Proofs.YtlappkflnlbfcaaGreatDoor.Chk
open Go.RowKit Row9 Stk
set_option maxRecDepth 100000
set_option maxHeartbeats 8000000
set_option linter.unusedVariables false
/-- Are bytes the same? -/
theorem bequal_any {w : World} {v u : Value} {a b : List Int} (h1 : Row elB w v a) (h2 : Row elB w u b) : Calls Tryz.prog 132 #[v, u] w fun e w' => e = .returned (.bool (decide (a = b))) ∧ Below w.heap.size w w' := by
  have e1 := run_txt h1
  have e2 := run_txt h2
  have e3 := str_beq h1.2 h2.2
  obtain ⟨A, c, rfl, _⟩ := h1.form
  obtain ⟨A', c', rfl, _⟩ := h2.form
  generalize decide (a = b) = q at *
  generalize strOfNums a = S1 at *
  generalize strOfNums b = S2 at *
  generalize a.length = n at *
  generalize b.length = m at *
  clear h1 h2
  go_enter Tryz.func132, Tryz.ntmps132
  go_wp2_with fail
  exact bodyPost_ret (v := .bool q) (by simp [results, Tryz.results132, go_sem]) rfl ⟨rfl, Below.refl _ _⟩
/-- Labels that came in, ahead of the checker. -/
def LabAt (w : World) (k : Nat) (v : Value) (L : List Int) : Prop := ∃ w0, Ins.SlI w0 v L ∧ w0.heap.size ≤ k ∧ Below w0.heap.size w0 w
theorem LabAt.but {w w' : World} {k : Nat} {v : Value} {L : List Int} (h : LabAt w k v L) (hb : But k w w') (hk : k < w.heap.size) : LabAt w' k v L := by
  obtain ⟨w0, h1, h3, h4⟩ := h
  exact ⟨w0, h1, h3, h4.trans (hb.below h3 hk)⟩
theorem LabAt.keep {w w' : World} {k : Nat} {v : Value} {L : List Int} (h : LabAt w k v L) (hb : Below w.heap.size w w') : LabAt w' k v L := by
  obtain ⟨w0, h1, h3, h4⟩ := h
  exact ⟨w0, h1, h3, h4.trans (hb.mono h4.size)⟩
theorem LabAt.sl {w : World} {k : Nat} {v : Value} {L : List Int} (h : LabAt w k v L) : Ins.SlI w v L := by
  obtain ⟨w0, h1, _, h4⟩ := h
  exact h1.keep h4
theorem Bd.tab {l : List Int} {n : Nat} : ∀ (L : List Int) {x : Rs}, Bd x n → Bd (tabR l L x) n
  | [], x, h => h
  | i :: L, x, h => Bd.tab L (Bd.need (Bd.label h))
theorem drop_at {L : List Int} {i : Nat} (h : i < L.length) : L.drop i = L.getD i 0 :: L.drop (i + 1) := by
  rw [List.drop_eq_getElem_cons h, List.getD_eq_getElem?_getD, List.getElem?_eq_getElem h]
  rfl
theorem brTable_ck {w : World} {k : Nat} {V : EV} {E : EnvP} {s : Stk} {op A B K : Int} {lab : Value} {LL : List Int} (h : Cx w k V E (.ok s)) (hb : Bd (.ok s) 300000) (hA : w64 A) (hL : LabAt w k lab LL) (hn : LL.length ≤ 1000000) (hW : ∀ x ∈ LL, w64 x) : Calls Tryz.prog 96 #[.pointer (some ⟨k, 0, none⟩), .agg #[.int .i64 op, .int .i64 A, .int .i64 B, .int .u64 K, lab]] w (CkEnds w k V E (tableR A LL s) (.tuple #[])) := by
  have HA := Lib.hid hA
  have HLN := Lib.hid hn
  have HWL := Lib.hid hW
  clear hW
  have HLB := Lib.hid (hL.keep (below_new w (.cells #[.int .i64 op, .int .i64 A, .int .i64 B, .int .u64 K, lab] 33)))
  clear hA hL hn
  have HD : Hid (tableR A LL s = killR (wantR (labelL A (.ok s)) (wantR [127] (tabR (labelL A (.ok s)) LL (labelR A (.ok s)))))) := rfl
  obtain ⟨PL, cL, hlab, _⟩ := id HLB.out.sl
  subst hlab
  obtain ⟨nL, hnL⟩ : ∃ n, LL.length = n := ⟨_, rfl⟩
  rw [hnL] at HLB HLN ⊢
  have HNL := Lib.hid hnL
  clear hnL
  have HCK := Lib.hid h
  have HCK := Lib.hid h
  have HB0 := Lib.hid hb
  have HBT : Hid (But k w (w.alloc (.cells #[.int .i64 op, .int .i64 A, .int .i64 B, .int .u64 K, .slice PL nL cL] 33))) := But.of_below (below_new w (.cells #[.int .i64 op, .int .i64 A, .int .i64 B, .int .u64 K, .slice PL nL cL] 33))
  have HCK := Lib.hid (h.keep (below_new w (.cells #[.int .i64 op, .int .i64 A, .int .i64 B, .int .u64 K, .slice PL nL cL] 33)))
  have HX := Lib.hid (heap_new w (.cells #[.int .i64 op, .int .i64 A, .int .i64 B, .int .u64 K, .slice PL nL cL] 33))
  have HSZ : Hid ((w.alloc (.cells #[.int .i64 op, .int .i64 A, .int .i64 B, .int .u64 K, .slice PL nL cL] 33)).heap.size = w.heap.size + 1) := size_new _ _
  have HYK : Hid (w.heap.size ≠ k) := Lib.hid (by have := h.lt; omega)
  clear h hb
  obtain ⟨b0, b1, b4⟩ := cells5 HX.out
  have bl := lt_of_heap HX.out
  go_enter Tryz.func96, Tryz.ntmps96
  go_wp2_with fail
  clear b0 b1 b4 bl
  generalize w.alloc (.cells #[.int .i64 op, .int .i64 A, .int .i64 B, .int .u64 K, .slice PL nL cL] 33) = u0 at *
  obtain ⟨y, hy⟩ : ∃ y, w.heap.size = y := ⟨_, rfl⟩
  rw [hy] at HX HYK HSZ
  simp only [hy]
  clear hy
  refine (label_ck HCK.out (HB0.out.mono (by omega)) HA.out).mono ?_
  rintro e w1 ⟨P1, n1, c1, rfl, hl, hc, hbt⟩
  have HLB := Lib.hid (HLB.out.but hbt HCK.out.lt)
  have HX := Lib.hid ((hbt.block y (lt_of_heap HX.out) HYK.out).trans HX.out)
  have HBT := Lib.hid (HBT.out.trans hbt)
  have HCK := Lib.hid hc
  have HLb := Lib.hid hl
  clear hc hbt hl
  obtain ⟨b0, b1, b4⟩ := cells5 HX.out
  have HB1 : Hid (Bd (labelR A (.ok s)) 300000) := HB0.out.label
  generalize labelR A (.ok s) = x1 at *
  have HLL := Lib.hid (l1 A (.ok s))
  generalize labelL A (.ok s) = lb at *
  go_wp2_with fail
  clear b0 b1 b4
  go_loopw [14] (fun i' wr => ∃ (i : Nat) (x : Rs), i' = .int .i64 (i : Int) ∧ i ≤ nL ∧ Cx wr k V E x ∧ But k w wr ∧ Bd x 300000 ∧ Row elB wr (.slice P1 n1 c1) lb ∧ LabAt wr k (.slice PL nL cL) LL ∧ tabR lb LL x1 = tabR lb (LL.drop i) x) (fun i' _ => nL - (intOf i').toNat)
  case atStart => exact ⟨0, x1, by go_num, Nat.zero_le _, HCK.out, HBT.out, HB1.out, HLb.out, HLB.out, rfl⟩
  case round =>
    obtain ⟨i, x, rfl, hi, hcx, hbw, hbd, hrb, hla, htr⟩ := hrel
    have HCX := Lib.hid hcx
    have HBW := Lib.hid hbw
    have HBD := Lib.hid hbd
    have HRB := Lib.hid hrb
    have HLA := Lib.hid hla
    have HTR := Lib.hid htr
    clear hcx hbw hbd hrb hla htr
    by_cases hlt : i < nL
    · obtain ⟨g, off, rfl, hcl⟩ := HLA.out.sl.at_ (j := i) (by rw [HNL.out]; exact hlt)
      have hdr := drop_at (L := LL) (i := i) (by rw [HNL.out]; exact hlt)
      obtain ⟨u, hu⟩ : ∃ u, LL.getD i 0 = u := ⟨_, rfl⟩
      have hw : w64 u := HWL.out u (by rw [← hu, List.getD_eq_getElem?_getD, List.getElem?_eq_getElem (by rw [HNL.out]; exact hlt)]; exact List.getElem_mem _)
      rw [hu] at hdr hcl
      have HDR := Lib.hid hdr
      have HWU := Lib.hid hw
      have i1 : (0 : Int) ≤ (i : Int) := by omega
      have i2 : (i : Int) < (nL : Int) := by omega
      have hw1 : IntKind.i64.wrap ((i : Int) + 1) = (i : Int) + 1 := IntWalk.i64_in _ (by have := HLN.out; omega)
      clear hdr hw hu
      go_wp2_with fail
      clear hcl
      refine (label_ck HCX.out (HBD.out.mono (by omega)) HWU.out).mono ?_
      rintro e w2 ⟨P2, n2, c2, rfl, hl, hc, hbt⟩
      have HRB := Lib.hid (rowB_apart HRB.out HCX.out.nobb hbt)
      have HLA := Lib.hid (HLA.out.but hbt HCX.out.lt)
      have HBW := Lib.hid (HBW.out.trans hbt)
      have HCX := Lib.hid hc
      have HR2 := Lib.hid hl
      clear hl hc hbt
      go_wp2_with fail
      refine (bequal_any HR2.out HRB.out).mono ?_
      rintro e w3 ⟨rfl, hb⟩
      have HRB := Lib.hid (HRB.out.keep hb)
      have HLA := Lib.hid (HLA.out.keep hb)
      have HBW := Lib.hid (HBW.out.trans (But.of_below hb))
      have HCX := Lib.hid (HCX.out.keep hb)
      clear hb HR2
      go_wp2_with fail
      refine (need_ck HCX.out (by decide)).mono ?_
      rintro e w4 ⟨rfl, hc, hbt⟩
      have HRB := Lib.hid (rowB_apart HRB.out HCX.out.nobb hbt)
      have HLA := Lib.hid (HLA.out.but hbt HCX.out.lt)
      have HBW := Lib.hid (HBW.out.trans hbt)
      have HCX := Lib.hid hc
      clear hc hbt
      go_wp2_with fail
      go_roundw
      case rel => exact ⟨i + 1, _, by go_num, hlt, HCX.out, HBW.out, HBD.out.label.need, HRB.out, HLA.out, by rw [HTR.out, HDR.out]; rfl⟩
      case measure => simp [intOf]; omega
    · obtain rfl : i = nL := by omega
      have HTT : Hid (tabR lb LL x1 = x) := by
        show _ = _
        rw [HTR.out, List.drop_of_length_le (by rw [HNL.out]; exact Nat.le_refl _)]
        rfl
      go_wp2_with fail
      have HNW := Lib.hid (below_new wr (.cells #[.int .u8 127] 5))
      have HLR := Lib.hid (row_lit1 wr 127 ⟨by omega, by omega⟩)
      refine (want_ck (HCX.out.keep HNW.out) (HBD.out.mono (by omega)) HLR.out (by simp)).mono ?_
      rintro e w2 ⟨rfl, hc, hbt⟩
      have HRB := Lib.hid (rowB_apart (HRB.out.keep HNW.out) (HCX.out.keep HNW.out).nobb hbt)
      have HBW := Lib.hid ((HBW.out.trans (But.of_below HNW.out)).trans hbt)
      have HCX := Lib.hid hc
      clear hc hbt
      go_wp2_with fail
      refine (want_ck HCX.out (HBD.out.want.mono (by omega)) HRB.out HLL.out).mono ?_
      rintro e w3 ⟨rfl, hc, hbt⟩
      have HBW := Lib.hid (HBW.out.trans hbt)
      have HCX := Lib.hid hc
      clear hc hbt
      go_wp2_with fail
      refine (kill_ck HCX.out (HBD.out.want.want.mono (by omega))).mono ?_
      rintro e w4 ⟨rfl, hc, hbt⟩
      have HBW := Lib.hid (HBW.out.trans hbt)
      have HCX := Lib.hid hc
      clear hc hbt
      go_wp2_with fail
      exact bodyPost_end (v := .tuple #[]) (by simp [results, Tryz.results96, go_sem]) rfl ⟨rfl, by rw [HD.out, HTT.out]; exact HCX.out, HBW.out⟩
end Go.Proofs.YtlappkflnlbfcaaGreatDoor.Chk
end

section
/- An instruction, and a step: walked (gen_cktake.py). -/
namespace Go.Proofs.YtlappkflnlbfcaaGreatDoor.Chk
open Go.RowKit Row9 Stk
set_option maxRecDepth 100000
set_option maxHeartbeats 8000000
set_option linter.unusedVariables false
theorem index_ck {w : World} {k : Nat} {V : EV} {E : EnvP} {s : Stk} {op A B K : Int} {lab : Value} (h : Cx w k V E (.ok s)) (hb : Bd (.ok s) 300000) (hf : FnBd E) (hA : w64 A) (hk : Ins.kd op = 3) : Calls Tryz.prog 95 #[.pointer (some ⟨k, 0, none⟩), .agg #[.int .i64 op, .int .i64 A, .int .i64 B, .int .u64 K, lab]] w (CkEnds w k V E (indexR E op A s) (.tuple #[])) := by
  have ho : op = 12 ∨ op = 13 ∨ op = 16 ∨ op = 32 ∨ op = 33 ∨ op = 34 ∨ op = 35 ∨ op = 36 := by
    unfold Ins.kd at hk
    split at hk
    · exact absurd hk (by decide)
    · repeat (first | omega | (split at hk))
  rcases ho with rfl | rfl | rfl | rfl | rfl | rfl | rfl | rfl
  · exact index_12 h hb hf hA
  · exact index_13 h hb hf hA
  · exact index_16 h hb hf hA
  · exact index_32 h hb hf hA
  · exact index_33 h hb hf hA
  · exact index_34 h hb hf hA
  · exact index_35 h hb hf hA
  · exact index_36 h hb hf hA
theorem stepOf_1 (w : World) : Calls Tryz.prog 60 #[.int .i64 1] w fun e w' => e = .returned (.func (.func 93) #[] #[]) ∧ w' = w := by
  have hix : ∀ W, (Instr.index 149 (.agg #[.nilFunc, .func (.func 93) #[] #[], .func (.func 94) #[] #[], .func (.func 95) #[] #[], .func (.func 96) #[] #[], .func (.func 97) #[] #[], .func (.func 98) #[] #[], .func (.func 99) #[] #[], .func (.func 100) #[] #[], .func (.func 101) #[] #[]]) (.int .i64 1)).run Tryz.prog W = .ok (.func (.func 93) #[] #[]) W := fun W => by rfl
  go_enter Tryz.func60, Tryz.ntmps60
  go_wp2_with fail
  exact bodyPost_ret (v := .func (.func 93) #[] #[]) (by simp [results, Tryz.results60, go_sem]) rfl ⟨rfl, rfl⟩
theorem stepOf_2 (w : World) : Calls Tryz.prog 60 #[.int .i64 2] w fun e w' => e = .returned (.func (.func 94) #[] #[]) ∧ w' = w := by
  have hix : ∀ W, (Instr.index 149 (.agg #[.nilFunc, .func (.func 93) #[] #[], .func (.func 94) #[] #[], .func (.func 95) #[] #[], .func (.func 96) #[] #[], .func (.func 97) #[] #[], .func (.func 98) #[] #[], .func (.func 99) #[] #[], .func (.func 100) #[] #[], .func (.func 101) #[] #[]]) (.int .i64 2)).run Tryz.prog W = .ok (.func (.func 94) #[] #[]) W := fun W => by rfl
  go_enter Tryz.func60, Tryz.ntmps60
  go_wp2_with fail
  exact bodyPost_ret (v := .func (.func 94) #[] #[]) (by simp [results, Tryz.results60, go_sem]) rfl ⟨rfl, rfl⟩
theorem stepOf_3 (w : World) : Calls Tryz.prog 60 #[.int .i64 3] w fun e w' => e = .returned (.func (.func 95) #[] #[]) ∧ w' = w := by
  have hix : ∀ W, (Instr.index 149 (.agg #[.nilFunc, .func (.func 93) #[] #[], .func (.func 94) #[] #[], .func (.func 95) #[] #[], .func (.func 96) #[] #[], .func (.func 97) #[] #[], .func (.func 98) #[] #[], .func (.func 99) #[] #[], .func (.func 100) #[] #[], .func (.func 101) #[] #[]]) (.int .i64 3)).run Tryz.prog W = .ok (.func (.func 95) #[] #[]) W := fun W => by rfl
  go_enter Tryz.func60, Tryz.ntmps60
  go_wp2_with fail
  exact bodyPost_ret (v := .func (.func 95) #[] #[]) (by simp [results, Tryz.results60, go_sem]) rfl ⟨rfl, rfl⟩
theorem stepOf_4 (w : World) : Calls Tryz.prog 60 #[.int .i64 4] w fun e w' => e = .returned (.func (.func 96) #[] #[]) ∧ w' = w := by
  have hix : ∀ W, (Instr.index 149 (.agg #[.nilFunc, .func (.func 93) #[] #[], .func (.func 94) #[] #[], .func (.func 95) #[] #[], .func (.func 96) #[] #[], .func (.func 97) #[] #[], .func (.func 98) #[] #[], .func (.func 99) #[] #[], .func (.func 100) #[] #[], .func (.func 101) #[] #[]]) (.int .i64 4)).run Tryz.prog W = .ok (.func (.func 96) #[] #[]) W := fun W => by rfl
  go_enter Tryz.func60, Tryz.ntmps60
  go_wp2_with fail
  exact bodyPost_ret (v := .func (.func 96) #[] #[]) (by simp [results, Tryz.results60, go_sem]) rfl ⟨rfl, rfl⟩
theorem stepOf_5 (w : World) : Calls Tryz.prog 60 #[.int .i64 5] w fun e w' => e = .returned (.func (.func 97) #[] #[]) ∧ w' = w := by
  have hix : ∀ W, (Instr.index 149 (.agg #[.nilFunc, .func (.func 93) #[] #[], .func (.func 94) #[] #[], .func (.func 95) #[] #[], .func (.func 96) #[] #[], .func (.func 97) #[] #[], .func (.func 98) #[] #[], .func (.func 99) #[] #[], .func (.func 100) #[] #[], .func (.func 101) #[] #[]]) (.int .i64 5)).run Tryz.prog W = .ok (.func (.func 97) #[] #[]) W := fun W => by rfl
  go_enter Tryz.func60, Tryz.ntmps60
  go_wp2_with fail
  exact bodyPost_ret (v := .func (.func 97) #[] #[]) (by simp [results, Tryz.results60, go_sem]) rfl ⟨rfl, rfl⟩
theorem stepOf_6 (w : World) : Calls Tryz.prog 60 #[.int .i64 6] w fun e w' => e = .returned (.func (.func 98) #[] #[]) ∧ w' = w := by
  have hix : ∀ W, (Instr.index 149 (.agg #[.nilFunc, .func (.func 93) #[] #[], .func (.func 94) #[] #[], .func (.func 95) #[] #[], .func (.func 96) #[] #[], .func (.func 97) #[] #[], .func (.func 98) #[] #[], .func (.func 99) #[] #[], .func (.func 100) #[] #[], .func (.func 101) #[] #[]]) (.int .i64 6)).run Tryz.prog W = .ok (.func (.func 98) #[] #[]) W := fun W => by rfl
  go_enter Tryz.func60, Tryz.ntmps60
  go_wp2_with fail
  exact bodyPost_ret (v := .func (.func 98) #[] #[]) (by simp [results, Tryz.results60, go_sem]) rfl ⟨rfl, rfl⟩
theorem stepOf_7 (w : World) : Calls Tryz.prog 60 #[.int .i64 7] w fun e w' => e = .returned (.func (.func 99) #[] #[]) ∧ w' = w := by
  have hix : ∀ W, (Instr.index 149 (.agg #[.nilFunc, .func (.func 93) #[] #[], .func (.func 94) #[] #[], .func (.func 95) #[] #[], .func (.func 96) #[] #[], .func (.func 97) #[] #[], .func (.func 98) #[] #[], .func (.func 99) #[] #[], .func (.func 100) #[] #[], .func (.func 101) #[] #[]]) (.int .i64 7)).run Tryz.prog W = .ok (.func (.func 99) #[] #[]) W := fun W => by rfl
  go_enter Tryz.func60, Tryz.ntmps60
  go_wp2_with fail
  exact bodyPost_ret (v := .func (.func 99) #[] #[]) (by simp [results, Tryz.results60, go_sem]) rfl ⟨rfl, rfl⟩
theorem stepOf_8 (w : World) : Calls Tryz.prog 60 #[.int .i64 8] w fun e w' => e = .returned (.func (.func 100) #[] #[]) ∧ w' = w := by
  have hix : ∀ W, (Instr.index 149 (.agg #[.nilFunc, .func (.func 93) #[] #[], .func (.func 94) #[] #[], .func (.func 95) #[] #[], .func (.func 96) #[] #[], .func (.func 97) #[] #[], .func (.func 98) #[] #[], .func (.func 99) #[] #[], .func (.func 100) #[] #[], .func (.func 101) #[] #[]]) (.int .i64 8)).run Tryz.prog W = .ok (.func (.func 100) #[] #[]) W := fun W => by rfl
  go_enter Tryz.func60, Tryz.ntmps60
  go_wp2_with fail
  exact bodyPost_ret (v := .func (.func 100) #[] #[]) (by simp [results, Tryz.results60, go_sem]) rfl ⟨rfl, rfl⟩
theorem stepOf_9 (w : World) : Calls Tryz.prog 60 #[.int .i64 9] w fun e w' => e = .returned (.func (.func 101) #[] #[]) ∧ w' = w := by
  have hix : ∀ W, (Instr.index 149 (.agg #[.nilFunc, .func (.func 93) #[] #[], .func (.func 94) #[] #[], .func (.func 95) #[] #[], .func (.func 96) #[] #[], .func (.func 97) #[] #[], .func (.func 98) #[] #[], .func (.func 99) #[] #[], .func (.func 100) #[] #[], .func (.func 101) #[] #[]]) (.int .i64 9)).run Tryz.prog W = .ok (.func (.func 101) #[] #[]) W := fun W => by rfl
  go_enter Tryz.func60, Tryz.ntmps60
  go_wp2_with fail
  exact bodyPost_ret (v := .func (.func 101) #[] #[]) (by simp [results, Tryz.results60, go_sem]) rfl ⟨rfl, rfl⟩
end Go.Proofs.YtlappkflnlbfcaaGreatDoor.Chk
end

section
/- An instruction, of kind 1: walked (gen_cktake.py). -/
namespace Go.Proofs.YtlappkflnlbfcaaGreatDoor.Chk
open Go.RowKit Row9 Stk
set_option maxRecDepth 100000
set_option maxHeartbeats 8000000
set_option linter.unusedVariables false
theorem take_1 {w : World} {k : Nat} {V : EV} {E : EnvP} {s : Stk} {op A B K : Int} {LL : List Int} {lab : Value} (h : Cx w k V E (.ok s)) (hb : Bd (.ok s) 300000) (hf : FnBd E) (hl : LabAt w k lab LL) (hu : Ints.u64R K) (hT : Ins.KTab w) (hA : Ins.ATab w) (hk : Ins.kd op = 1) (hs : Ins.saneI ⟨op, A, B, K, LL⟩ = true) : Calls Tryz.prog 27 #[.pointer (some ⟨k, 0, none⟩), .agg #[.int .i64 op, .int .i64 A, .int .i64 B, .int .u64 K, lab]] w (CkEnds w k V E (plainR E op s) (.tuple #[])) := by
  have HB0 := Lib.hid hb
  have HFB := Lib.hid hf
  have HKQ := Lib.hid hk
  have HL0 := Lib.hid (hl.keep (below_new w (.cells #[.int .i64 op, .int .i64 A, .int .i64 B, .int .u64 K, lab] 33)))
  have HKT := Lib.hid (hT.keep (below_new w (.cells #[.int .i64 op, .int .i64 A, .int .i64 B, .int .u64 K, lab] 33)))
  have HAT := Lib.hid (hA.keep (below_new w (.cells #[.int .i64 op, .int .i64 A, .int .i64 B, .int .u64 K, lab] 33)))
  have HBT : Hid (But k w (w.alloc (.cells #[.int .i64 op, .int .i64 A, .int .i64 B, .int .u64 K, lab] 33))) := But.of_below (below_new w (.cells #[.int .i64 op, .int .i64 A, .int .i64 B, .int .u64 K, lab] 33))
  have HCK := Lib.hid (h.keep (below_new w (.cells #[.int .i64 op, .int .i64 A, .int .i64 B, .int .u64 K, lab] 33)))
  have HX := Lib.hid (heap_new w (.cells #[.int .i64 op, .int .i64 A, .int .i64 B, .int .u64 K, lab] 33))
  have HSN := Lib.hid (Ins.psane_any (x := ⟨op, A, B, K, LL⟩) (o := lab) HL0.out.sl hu HKT.out)
  rw [hs] at HSN
  rw [show Ins.iv ⟨op, A, B, K, LL⟩ lab = .agg #[.int .i64 op, .int .i64 A, .int .i64 B, .int .u64 K, lab] from rfl] at HSN
  have HKD := Lib.hid (fun W (hW : Ins.KTab W) => Ins.kind_any op W hW)
  rw [hk] at HKD
  clear h hb hf hl hu hT hA hk hs
  obtain ⟨b0, b1, b2, b3, b4⟩ : _ ∧ _ ∧ _ ∧ _ ∧ _ := ⟨(cells_at HX.out 0).1, (cells_at HX.out 1).1, (cells_at HX.out 2).1, (cells_at HX.out 3).1, (cells_at HX.out 4).1⟩
  simp only [List.getElem?_toArray, List.getElem?_cons_zero, List.getElem?_cons_succ] at b0 b1 b2 b3 b4
  go_enter Tryz.func27, Tryz.ntmps27
  go_wp2_with fail
  clear b0 b1 b2 b3 b4
  generalize w.alloc (.cells #[.int .i64 op, .int .i64 A, .int .i64 B, .int .u64 K, lab] 33) = u0 at *
  obtain ⟨y, hy⟩ : ∃ y, w.heap.size = y := ⟨_, rfl⟩
  rw [hy] at HX
  simp only [hy]
  clear hy
  refine HSN.out.mono ?_
  rintro e w1 ⟨rfl, hb⟩
  have HX1 := Lib.hid (blk HX.out hb)
  have HDw := Lib.hid (hb.trans ((below_drew1 w1).mono hb.size))
  have HCF := Lib.hid (HCK.out.keep HDw.out)
  have HLF := Lib.hid (HL0.out.keep HDw.out)
  have HTF := Lib.hid (HAT.out.keep HDw.out)
  have HKF := Lib.hid (HKD.out w1.drew (HKT.out.keep HDw.out))
  have HSF := Lib.hid (stepOf_1 w1.drew)
  have HBF := Lib.hid (HBT.out.trans (But.of_below HDw.out))
  obtain ⟨b0, b1, b2, b3, b4⟩ : _ ∧ _ ∧ _ ∧ _ ∧ _ := ⟨(cells_at HX1.out 0).1, (cells_at HX1.out 1).1, (cells_at HX1.out 2).1, (cells_at HX1.out 3).1, (cells_at HX1.out 4).1⟩
  simp only [List.getElem?_toArray, List.getElem?_cons_zero, List.getElem?_cons_succ] at b0 b1 b2 b3 b4
  clear hb HSN
  go_wp2_with fail
  go_region_law (first
    | (go_simp; go_at_call 61; (with_reducible refine Calls.mono HKF.out ?_); rintro e w2 ⟨rfl, hw2⟩; obtain rfl := hw2)
    | (go_simp; go_at_call 60; (with_reducible refine Calls.mono HSF.out ?_); rintro e w3 ⟨rfl, hw3⟩; obtain rfl := hw3)
    | (go_simp; go_at_call 93; refine Calls.mono (plain_ck HCF.out HB0.out HFB.out HKQ.out) ?_; rintro e w4 ⟨rfl, hc, hbt⟩; have HBT4 := Lib.hid (HBF.out.trans hbt); have HCK4 := Lib.hid hc; clear hc hbt))
  all_goals (
    clear b0 b1 b2 b3 b4
    go_wp2_with fail
    exact bodyPost_end (v := .tuple #[]) (by simp [results, Tryz.results27, go_sem]) rfl ⟨rfl, HCK4.out, HBT4.out⟩)
end Go.Proofs.YtlappkflnlbfcaaGreatDoor.Chk
end
