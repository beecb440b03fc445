/- ChkNamed, ChkShape. -/
import Derived.Test.YtlappkflnlbfcaaGreatDoorPkChkType
import Derived.Test.YtlappkflnlbfcaaGreatDoorPkChkPrim
import Derived.Test.YtlappkflnlbfcaaGreatDoorPkIntsAll
section
/- What is named by a number: walked (gen_cknamed.py). -/
namespace Go.Proofs.YtlappkflnlbfcaaGreatDoor.Chk
open Go.RowKit Row9 Stk
set_option maxRecDepth 100000
set_option maxHeartbeats 4000000
set_option linter.unusedVariables false
/-- need, where nothing is to be done. -/
theorem need_yes {w : World} {k : Nat} {V : EV} {E : EnvP} {x : Rs} {b : Bool} {i : Int} (h : Cx w k V E x) (hy : b = true ∨ ∃ e, x = .er e) : Calls Tryz.prog 59 #[.pointer (some ⟨k, 0, none⟩), .bool b, .int .i64 i] w fun e w' => e = .returned (.tuple #[]) ∧ w' = w := by
  have hkl : k < w.heap.size := h.lt
  cases x with
  | er e =>
    obtain ⟨P, n, c, Q, m, d, h1, t1⟩ := h.er
    obtain ⟨c7, c8, c9, f7, f8, f9⟩ := cells10 h1
    clear h h1 hy
    cases b
    all_goals (
      go_enter Tryz.func59, Tryz.ntmps59
      go_wp2_with fail
      exact bodyPost_end (v := .tuple #[]) (by simp [results, Tryz.results59, go_sem]) rfl ⟨rfl, rfl⟩)
  | ok s =>
    obtain ⟨P, n, c, Q, m, d, h1, hs⟩ := h.ok
    obtain ⟨c7, c8, c9, f7, f8, f9⟩ := cells10 h1
    obtain rfl : b = true := by
      rcases hy with h | ⟨e, h⟩
      · exact h
      · cases h
    clear h h1 hs hy
    go_enter Tryz.func59, Tryz.ntmps59
    go_wp2_with fail
    exact bodyPost_end (v := .tuple #[]) (by simp [results, Tryz.results59, go_sem]) rfl ⟨rfl, rfl⟩
theorem need_no {w : World} {k : Nat} {V : EV} {E : EnvP} {s : Stk} {i : Int} (h : Cx w k V E (.ok s)) : Calls Tryz.prog 59 #[.pointer (some ⟨k, 0, none⟩), .bool false, .int .i64 i] w fun e w' => e = .returned (.tuple #[]) ∧ w' = w.setCell ⟨k, 9, none⟩ (.int .i64 i) := by
  have hkl : k < w.heap.size := h.lt
  obtain ⟨P, n, c, Q, m, d, h1, hs⟩ := h.ok
  obtain ⟨c7, c8, c9, f7, f8, f9⟩ := cells10 h1
  clear h h1 hs
  go_enter Tryz.func59, Tryz.ntmps59
  go_wp2_with fail
  exact bodyPost_end (v := .tuple #[]) (by simp [results, Tryz.results59, go_sem]) rfl ⟨rfl, rfl⟩
theorem needR_yes {b : Bool} {i : Int} {x : Rs} (hy : b = true ∨ ∃ e, x = .er e) : needR b i x = x := by
  cases x with
  | er e => rfl
  | ok s =>
    obtain rfl : b = true := by
      rcases hy with h | ⟨e, h⟩
      · exact h
      · cases h
    rfl
theorem named_byte {w : World} {k : Nat} {V : EV} {E : EnvP} {x : Rs} {v : Value} {l : List Int} {n : Int} (h : Cx w k V E x) (hl : Row elB w v l) : Calls Tryz.prog 130 #[.pointer (some ⟨k, 0, none⟩), v, .int .i64 n] w (CkEnds w k V E (namedR l n x) (.int .u8 ((atL l n).getD 0))) := by
  have HC := Lib.hid (at_byte (n := n) hl)
  have H := Lib.hid h
  have hd : namedR l n x = needR (atL l n).isSome 6 x := rfl
  rw [hd]
  obtain ⟨A, c, rfl, _⟩ := hl.form
  obtain ⟨m, hm⟩ : ∃ m, l.length = m := ⟨_, rfl⟩
  rw [hm] at HC ⊢
  generalize (atL l n).isSome = ok at *
  generalize (atL l n).getD 0 = p at *
  have HN := Lib.hid (need_ck (b := ok) (i := 6) h (by decide))
  clear h hl hm hd
  go_enter Tryz.func130, Tryz.ntmps130
  go_wp2_with fail
  refine HC.out.mono ?_
  rintro e w1 ⟨rfl, rfl⟩
  go_wp2_with fail
  refine HN.out.mono ?_
  rintro e w2 ⟨rfl, hc, hb⟩
  have HC2 := Lib.hid hc
  have HB2 := Lib.hid hb
  clear hc hb HC HN
  go_wp2_with fail
  exact bodyPost_ret (v := .int .u8 p) (by simp [results, Tryz.results130, go_sem]) rfl ⟨rfl, HC2.out, HB2.out⟩
theorem but_z {k z : Nat} {w w3 : World} {a b : Value} (h : But k w w3) {w' : World} (hz : w.heap.size = z) (he : w' = (w3.setCell ⟨z, 0, none⟩ a).setCell ⟨z, 1, none⟩ b) : But k w w' := by
  subst he
  refine ⟨h.os, h.tape, h.output, by simp only [set_size]; exact h.size, fun j hj hne => ?_⟩
  have h1 : j ≠ z := by omega
  rw [chg_set _ z 1 b j (by rw [set_size]; exact Nat.lt_of_lt_of_le hj h.size) (fun e => h1 (Option.some.inj e)), chg_set w3 z 0 a j (Nat.lt_of_lt_of_le hj h.size) (fun e => h1 (Option.some.inj e))]
  exact h.block j hj hne
/-- How named ends: nothing is changed, or there is an error. -/
def NmEnds (w : World) (k : Nat) (V : EV) (E : EnvP) (y x : Rs) (r : Value) (e : Ending) (w' : World) : Prop := e = .returned r ∧ ((y = x ∧ Below w.heap.size w w') ∨ ∃ i, y = .er i ∧ Cx w' k V E (.er i) ∧ But k w w')
theorem named_globN {w : World} {k : Nat} {V : EV} {E : EnvP} {x : Rs} {v : Value} {l : List (Int × Bool)} {n : Int} (h : Cx w k V E x) (hl : Row elGP w v l) : Calls Tryz.prog 131 #[.pointer (some ⟨k, 0, none⟩), v, .int .i64 n] w (NmEnds w k V E (namedR l n x) x (.agg #[.int .u8 ((atL l n).getD (0, false)).1, .bool ((atL l n).getD (0, false)).2])) := by
  have HB0 := Lib.hid (below_new w (.cells #[.int .u8 0, .bool false] 82))
  have HZ0 := Lib.hid (heap_new w (.cells #[.int .u8 0, .bool false] 82))
  have HC := Lib.hid (at_glob (n := n) (hl.keep HB0.out))
  have H := Lib.hid h
  have HKL : Hid (k < w.heap.size) := h.lt
  have hd : namedR l n x = needR (atL l n).isSome 6 x := rfl
  rw [hd]
  obtain ⟨A, c, rfl, _⟩ := hl.form
  clear h hd
  obtain ⟨m, hm⟩ : ∃ m, l.length = m := ⟨_, rfl⟩
  rw [hm] at HC ⊢
  clear hl hm
  generalize hok : (atL l n).isSome = ok at *
  clear hok
  go_enter Tryz.func131, Tryz.ntmps131
  go_wp2_with fail
  generalize w.alloc (.cells #[.int .u8 0, .bool false] 82) = w0 at *
  obtain ⟨z, hz⟩ : ∃ z, w.heap.size = z := ⟨_, rfl⟩
  have HWZ : Hid (w.heap.size = z) := hz
  rw [hz] at HZ0 HKL
  simp only [hz]
  clear hz
  refine HC.out.mono ?_
  rintro e w1 ⟨⟨p, hp, rfl⟩, hb⟩
  have HB1 := Lib.hid (hb.trans ((below_new w1 (.cells #[.int .u8 p.1, .bool p.2] 82)).mono hb.size))
  have HY := Lib.hid (heap_new w1 (.cells #[.int .u8 p.1, .bool p.2] 82))
  have HZ := Lib.hid (blk HZ0.out HB1.out)
  have HBW := Lib.hid (HB0.out.trans (HB1.out.mono HB0.out.size))
  have HZY : Hid (z < w1.heap.size) := Nat.lt_of_lt_of_le (lt_of_heap HZ0.out) hb.size
  have HP := Lib.hid hp
  clear hp
  clear hb HC
  go_wp2_with fail
  generalize w1.alloc (.cells #[.int .u8 p.1, .bool p.2] 82) = w2 at *
  obtain ⟨y, hy⟩ : ∃ y, w1.heap.size = y := ⟨_, rfl⟩
  rw [hy] at HY HZY
  simp only [hy]
  clear hy
  have HX := Lib.hid (H.out.keep HBW.out)
  by_cases hyes : ok = true ∨ ∃ e, x = .er e
  · have HYES := Lib.hid (needR_yes (i := 6) hyes)
    refine (need_yes HX.out hyes).mono ?_
    rintro e w3 ⟨rfl, hw3⟩
    obtain rfl : w2 = w3 := hw3.symm
    clear hyes
    obtain ⟨y0, y1⟩ := cells2 HY.out
    obtain ⟨z0, z1⟩ := cells2 HZ.out
    have zp0 := (cells_at HZ.out 0).2
    have zp1 := (cells_at HZ.out 1).2
    have hzl : z < w2.heap.size := lt_of_heap HZ.out
    go_wp2_with fail
    obtain ⟨f0, f1⟩ := cells2 (show ((w2.setCell ⟨z, 0, none⟩ (.int .u8 p.1)).setCell ⟨z, 1, none⟩ (.bool p.2)).heap[z]? = some (.cells #[.int .u8 p.1, .bool p.2] 82 (0, 0)) by rw [set_heap (set_heap HZ.out _)]; rfl)
    have HF := Lib.hid ((HBW.out.setCell (p := ⟨z, 0, none⟩) (Nat.le_of_eq HWZ.out) (.int .u8 p.1)).setCell (p := ⟨z, 1, none⟩) (Nat.le_of_eq HWZ.out) (.bool p.2))
    generalize (w2.setCell ⟨z, 0, none⟩ (.int .u8 p.1)).setCell ⟨z, 1, none⟩ (.bool p.2) = wf at *
    clear y0 y1 z0 z1 zp0 zp1
    exact bodyPost_ret (v := .agg #[.int .u8 p.1, .bool p.2]) (by simp [results, Tryz.results131, go_sem, f0, f1]) rfl ⟨by rw [HP.out], .inl ⟨HYES.out, HF.out⟩⟩
  · obtain ⟨s, rfl⟩ : ∃ s, x = .ok s := by
      cases x with
      | ok s => exact ⟨s, rfl⟩
      | er e => exact absurd (.inr ⟨e, rfl⟩) hyes
    obtain rfl : ok = false := by
      cases ok with
      | false => rfl
      | true => exact absurd (.inl rfl) hyes
    clear hyes
    refine (need_no HX.out).mono ?_
    rintro e w3 ⟨rfl, hw3⟩
    have HKZ : Hid (k ≠ z) := Lib.hid (by have := HKL.out; omega)
    have HKY : Hid (k ≠ y) := Lib.hid (by have := HKL.out; have := HZY.out; omega)
    obtain ⟨P0, n0, c0', Q0, m0, d0, hk2, _⟩ := HX.out.ok
    have hk3 : w3.heap[k]? = some (ckObj V E (.slice P0 n0 c0') (.slice Q0 m0 d0) 6) := by rw [hw3]; exact set10e hk2 6
    have hb3 : But k w2 w3 := by rw [hw3]; exact (But.refl k w2).setCell 9 _
    have hy3 := (hb3.block y (lt_of_heap HY.out) (Ne.symm HKY.out)).trans HY.out
    have hz3 := (hb3.block z (lt_of_heap HZ.out) (Ne.symm HKZ.out)).trans HZ.out
    have HBB := Lib.hid ((But.of_below (g := k) HBW.out).trans hb3)
    have HK3 := Lib.hid hk3
    have HZ3 := Lib.hid hz3
    have HB3 := Lib.hid hb3
    obtain ⟨y0, y1⟩ := cells2 hy3
    obtain ⟨z0, z1⟩ := cells2 hz3
    have zp0 := (cells_at hz3 0).2
    have zp1 := (cells_at hz3 1).2
    have hzl : z < w3.heap.size := lt_of_heap hz3
    clear hw3 hk2 hk3 hb3 hy3 hz3
    go_wp2_with fail
    obtain ⟨f0, f1⟩ := cells2 (show ((w3.setCell ⟨z, 0, none⟩ (.int .u8 p.1)).setCell ⟨z, 1, none⟩ (.bool p.2)).heap[z]? = some (.cells #[.int .u8 p.1, .bool p.2] 82 (0, 0)) by rw [set_heap (set_heap HZ3.out _)]; rfl)
    have hk4 : ((w3.setCell ⟨z, 0, none⟩ (.int .u8 p.1)).setCell ⟨z, 1, none⟩ (.bool p.2)).heap[k]? = some (ckObj V E (.slice P0 n0 c0') (.slice Q0 m0 d0) 6) := chg_two HK3.out HZ3.out HKZ.out
    have hb4 : But k w ((w3.setCell ⟨z, 0, none⟩ (.int .u8 p.1)).setCell ⟨z, 1, none⟩ (.bool p.2)) := but_z HBB.out HWZ.out rfl
    have HF := Lib.hid (H.out.put (y := .er 6) hb4 hk4 (fun s' hs' => by cases hs') (fun e he => by injection he with he; rw [← he]; decide))
    have HFB := Lib.hid hb4
    generalize (w3.setCell ⟨z, 0, none⟩ (.int .u8 p.1)).setCell ⟨z, 1, none⟩ (.bool p.2) = wf at *
    clear y0 y1 z0 z1 zp0 zp1 hk4 hb4
    exact bodyPost_ret (v := .agg #[.int .u8 p.1, .bool p.2]) (by simp [results, Tryz.results131, go_sem, f0, f1]) rfl ⟨by rw [HP.out], .inr ⟨6, rfl, HF.out, HFB.out⟩⟩
theorem named_glob {w : World} {k : Nat} {V : EV} {E : EnvP} {x : Rs} {v : Value} {l : List (Int × Bool)} {n : Int} (h : Cx w k V E x) (hl : Row elGP w v l) : Calls Tryz.prog 131 #[.pointer (some ⟨k, 0, none⟩), v, .int .i64 n] w (CkEnds w k V E (namedR l n x) (.agg #[.int .u8 ((atL l n).getD (0, false)).1, .bool ((atL l n).getD (0, false)).2])) :=
  (named_globN h hl).mono fun e w' ⟨h1, h2⟩ => by
    refine ⟨h1, ?_⟩
    rcases h2 with ⟨h2, hb⟩ | ⟨i, h2, hc, hb⟩
    · rw [h2]; exact ⟨h.keep hb, But.of_below hb⟩
    · rw [h2]; exact ⟨hc, hb⟩
/-- How named ends, for a function's type. -/
def NfEnds (w : World) (k : Nat) (V : EV) (E : EnvP) (x : Rs) (f : List Int × List Int) (e : Ending) (w' : World) : Prop := ∃ P n c Q m d, e = .returned (.agg #[.slice P n c, .slice Q m d]) ∧ Row elB w' (.slice P n c) f.1 ∧ Row elB w' (.slice Q m d) f.2 ∧ Cx w' k V E x ∧ But k w w'
theorem named_fn {w : World} {k : Nat} {V : EV} {E : EnvP} {x : Rs} {v : Value} {ts : List FnV} {n : Int} (h : Cx w k V E x) (hl : Row elF w v ts) : Calls Tryz.prog 133 #[.pointer (some ⟨k, 0, none⟩), v, .int .i64 n] w (NfEnds w k V E (namedR (ts.map (·.1)) n x) ((atL (ts.map (·.1)) n).getD ([], []))) := by
  have HB0 := Lib.hid (below_new w (.cells #[.slice none 0 0, .slice none 0 0] 51))
  have HZ0 := Lib.hid (heap_new w (.cells #[.slice none 0 0, .slice none 0 0] 51))
  have HC := Lib.hid (at_fn (n := n) (hl.keep HB0.out))
  have H := Lib.hid h
  have HKL : Hid (k < w.heap.size) := h.lt
  have hd : namedR (ts.map (·.1)) n x = needR (atL (ts.map (·.1)) n).isSome 6 x := rfl
  rw [hd]
  obtain ⟨A, c, rfl, _⟩ := hl.form
  clear h hd
  obtain ⟨m, hm⟩ : ∃ m, ts.length = m := ⟨_, rfl⟩
  rw [hm] at HC ⊢
  clear hl hm
  generalize hok : (atL (ts.map (·.1)) n).isSome = ok at *
  clear hok
  go_enter Tryz.func133, Tryz.ntmps133
  go_wp2_with fail
  generalize w.alloc (.cells #[.slice none 0 0, .slice none 0 0] 51) = w0 at *
  obtain ⟨z, hz⟩ : ∃ z, w.heap.size = z := ⟨_, rfl⟩
  have HWZ : Hid (w.heap.size = z) := hz
  rw [hz] at HZ0 HKL
  simp only [hz]
  clear hz
  refine HC.out.mono ?_
  rintro e w1 ⟨⟨P5, n5, c5, Q5, m5, d5, rfl, hr1, hr2⟩, hb⟩
  have HB1 := Lib.hid (hb.trans ((below_new w1 (.cells #[.slice P5 n5 c5, .slice Q5 m5 d5] 51)).mono hb.size))
  have HY := Lib.hid (heap_new w1 (.cells #[.slice P5 n5 c5, .slice Q5 m5 d5] 51))
  have HZ := Lib.hid (blk HZ0.out HB1.out)
  have HBW := Lib.hid (HB0.out.trans (HB1.out.mono HB0.out.size))
  have HZY : Hid (z < w1.heap.size) := Nat.lt_of_lt_of_le (lt_of_heap HZ0.out) hb.size
  have HR1 := Lib.hid (hr1.keep (below_new w1 (.cells #[.slice P5 n5 c5, .slice Q5 m5 d5] 51)))
  have HR2 := Lib.hid (hr2.keep (below_new w1 (.cells #[.slice P5 n5 c5, .slice Q5 m5 d5] 51)))
  clear hr1 hr2
  clear hb HC
  go_wp2_with fail
  generalize w1.alloc (.cells #[.slice P5 n5 c5, .slice Q5 m5 d5] 51) = w2 at *
  obtain ⟨y, hy⟩ : ∃ y, w1.heap.size = y := ⟨_, rfl⟩
  rw [hy] at HY HZY
  simp only [hy]
  clear hy
  have HX := Lib.hid (H.out.keep HBW.out)
  by_cases hyes : ok = true ∨ ∃ e, x = .er e
  · have HYES := Lib.hid (needR_yes (i := 6) hyes)
    refine (need_yes HX.out hyes).mono ?_
    rintro e w3 ⟨rfl, hw3⟩
    obtain rfl : w2 = w3 := hw3.symm
    clear hyes
    obtain ⟨y0, y1⟩ := cells2 HY.out
    obtain ⟨z0, z1⟩ := cells2 HZ.out
    have zp0 := (cells_at HZ.out 0).2
    have zp1 := (cells_at HZ.out 1).2
    have hzl : z < w2.heap.size := lt_of_heap HZ.out
    go_wp2_with fail
    obtain ⟨f0, f1⟩ := cells2 (show ((w2.setCell ⟨z, 0, none⟩ (.slice P5 n5 c5)).setCell ⟨z, 1, none⟩ (.slice Q5 m5 d5)).heap[z]? = some (.cells #[.slice P5 n5 c5, .slice Q5 m5 d5] 51 (0, 0)) by rw [set_heap (set_heap HZ.out _)]; rfl)
    have HF := Lib.hid ((HBW.out.setCell (p := ⟨z, 0, none⟩) (Nat.le_of_eq HWZ.out) (.slice P5 n5 c5)).setCell (p := ⟨z, 1, none⟩) (Nat.le_of_eq HWZ.out) (.slice Q5 m5 d5))
    have HE1 := Lib.hid (rowB_box (rowB_box HR1.out HZ.out (i := 0) (u := .slice P5 n5 c5)) (set_heap HZ.out _) (i := 1) (u := .slice Q5 m5 d5))
    have HE2 := Lib.hid (rowB_box (rowB_box HR2.out HZ.out (i := 0) (u := .slice P5 n5 c5)) (set_heap HZ.out _) (i := 1) (u := .slice Q5 m5 d5))
    generalize (w2.setCell ⟨z, 0, none⟩ (.slice P5 n5 c5)).setCell ⟨z, 1, none⟩ (.slice Q5 m5 d5) = wf at *
    clear y0 y1 z0 z1 zp0 zp1
    exact bodyPost_ret (v := .agg #[.slice P5 n5 c5, .slice Q5 m5 d5]) (by simp [results, Tryz.results133, go_sem, f0, f1]) rfl ⟨_, _, _, _, _, _, rfl, HE1.out, HE2.out, by rw [HYES.out]; exact H.out.keep HF.out, But.of_below HF.out⟩
  · obtain ⟨s, rfl⟩ : ∃ s, x = .ok s := by
      cases x with
      | ok s => exact ⟨s, rfl⟩
      | er e => exact absurd (.inr ⟨e, rfl⟩) hyes
    obtain rfl : ok = false := by
      cases ok with
      | false => rfl
      | true => exact absurd (.inl rfl) hyes
    clear hyes
    refine (need_no HX.out).mono ?_
    rintro e w3 ⟨rfl, hw3⟩
    have HKZ : Hid (k ≠ z) := Lib.hid (by have := HKL.out; omega)
    have HKY : Hid (k ≠ y) := Lib.hid (by have := HKL.out; have := HZY.out; omega)
    obtain ⟨P0, n0, c0', Q0, m0, d0, hk2, _⟩ := HX.out.ok
    have hk3 : w3.heap[k]? = some (ckObj V E (.slice P0 n0 c0') (.slice Q0 m0 d0) 6) := by rw [hw3]; exact set10e hk2 6
    have hb3 : But k w2 w3 := by rw [hw3]; exact (But.refl k w2).setCell 9 _
    have hy3 := (hb3.block y (lt_of_heap HY.out) (Ne.symm HKY.out)).trans HY.out
    have hz3 := (hb3.block z (lt_of_heap HZ.out) (Ne.symm HKZ.out)).trans HZ.out
    have HBB := Lib.hid ((But.of_below (g := k) HBW.out).trans hb3)
    have HK3 := Lib.hid hk3
    have HZ3 := Lib.hid hz3
    have HB3 := Lib.hid hb3
    obtain ⟨y0, y1⟩ := cells2 hy3
    obtain ⟨z0, z1⟩ := cells2 hz3
    have zp0 := (cells_at hz3 0).2
    have zp1 := (cells_at hz3 1).2
    have hzl : z < w3.heap.size := lt_of_heap hz3
    clear hw3 hk2 hk3 hb3 hy3 hz3
    go_wp2_with fail
    obtain ⟨f0, f1⟩ := cells2 (show ((w3.setCell ⟨z, 0, none⟩ (.slice P5 n5 c5)).setCell ⟨z, 1, none⟩ (.slice Q5 m5 d5)).heap[z]? = some (.cells #[.slice P5 n5 c5, .slice Q5 m5 d5] 51 (0, 0)) by rw [set_heap (set_heap HZ3.out _)]; rfl)
    have hk4 : ((w3.setCell ⟨z, 0, none⟩ (.slice P5 n5 c5)).setCell ⟨z, 1, none⟩ (.slice Q5 m5 d5)).heap[k]? = some (ckObj V E (.slice P0 n0 c0') (.slice Q0 m0 d0) 6) := chg_two HK3.out HZ3.out HKZ.out
    have hb4 : But k w ((w3.setCell ⟨z, 0, none⟩ (.slice P5 n5 c5)).setCell ⟨z, 1, none⟩ (.slice Q5 m5 d5)) := but_z HBB.out HWZ.out rfl
    have HF := Lib.hid (H.out.put (y := .er 6) hb4 hk4 (fun s' hs' => by cases hs') (fun e he => by injection he with he; rw [← he]; decide))
    have HFB := Lib.hid hb4
    have HE1 := Lib.hid (rowB_box (rowB_box (rowB_apart HR1.out HX.out.nobb HB3.out) HZ3.out (i := 0) (u := .slice P5 n5 c5)) (set_heap HZ3.out _) (i := 1) (u := .slice Q5 m5 d5))
    have HE2 := Lib.hid (rowB_box (rowB_box (rowB_apart HR2.out HX.out.nobb HB3.out) HZ3.out (i := 0) (u := .slice P5 n5 c5)) (set_heap HZ3.out _) (i := 1) (u := .slice Q5 m5 d5))
    generalize (w3.setCell ⟨z, 0, none⟩ (.slice P5 n5 c5)).setCell ⟨z, 1, none⟩ (.slice Q5 m5 d5) = wf at *
    clear y0 y1 z0 z1 zp0 zp1 hk4 hb4
    exact bodyPost_ret (v := .agg #[.slice P5 n5 c5, .slice Q5 m5 d5]) (by simp [results, Tryz.results133, go_sem, f0, f1]) rfl ⟨_, _, _, _, _, _, rfl, HE1.out, HE2.out, HF.out, HFB.out⟩
end Go.Proofs.YtlappkflnlbfcaaGreatDoor.Chk
end

section
/- What an operator takes and gives: both sides'. -/
namespace Go.Proofs.YtlappkflnlbfcaaGreatDoor.Chk
open Go.RowKit Row9 Stk
set_option maxRecDepth 100000
set_option maxHeartbeats 1000000
set_option linter.unusedVariables false
theorem row_lit2 (w : World) (x y : Int) (h : 0 ≤ x ∧ x < 256) (h' : 0 ≤ y ∧ y < 256) : Row elB (w.alloc (.cells #[.int .u8 x, .int .u8 y] 5)) (.slice (some ⟨w.heap.size, 0, none⟩) 2 2) [x, y] := by
  have hh := heap_new w (.cells #[.int .u8 x, .int .u8 y] 5)
  refine ⟨⟨_, 2, rfl, Nat.le_refl _, by omega, fun _ => ⟨w.heap.size, 0, rfl, by rw [size_new]; omega, fun j p hj => ?_⟩⟩, fun p hp => ?_⟩
  · rcases j with _ | _ | j
    · obtain rfl := Option.some.inj hj
      intro i u hu
      rcases i with _ | i
      · obtain rfl := Option.some.inj hu
        exact (cells_at hh 0).1
      · simp [elB] at hu
    · obtain rfl := Option.some.inj hj
      intro i u hu
      rcases i with _ | i
      · obtain rfl := Option.some.inj hu
        exact (cells_at hh 1).1
      · simp [elB] at hu
    · simp at hj
  · simp only [List.mem_cons, List.not_mem_nil, or_false] at hp
    rcases hp with rfl | rfl
    · exact h
    · exact h'
def ShTold (f : FuncId) (op : Int) : Prop := ∀ w, Calls Tryz.prog f #[.int .i64 op] w fun e w' => (∃ P n c, e = .returned (.tuple #[.slice P n c, .int .u8 (shT op).2, .bool true]) ∧ Row elB w' (.slice P n c) (shT op).1) ∧ Below w.heap.size w w'
theorem sh1_told {f : FuncId} {op T G : Int} (h : Ints.Sh1 f op T G) (e : shT op = ([T], G)) (hT : 0 ≤ T ∧ T < 256) : ShTold f op := fun w => (h w).mono fun en w' ⟨he, hw⟩ => by
  subst hw he
  rw [e]
  exact ⟨⟨_, _, _, rfl, row_lit1 w T hT⟩, below_new w _⟩
theorem sh2_told {f : FuncId} {op T G : Int} (h : Ints.Sh2 f op T G) (e : shT op = ([T, T], G)) (hT : 0 ≤ T ∧ T < 256) : ShTold f op := fun w => (h w).mono fun en w' ⟨he, hw⟩ => by
  subst hw he
  rw [e]
  exact ⟨⟨_, _, _, rfl, row_lit2 w T T hT hT⟩, below_new w _⟩
theorem ne_b {a b : Int} (h : a ≠ b) : (a == b) = false := by simpa using h
theorem tk_t {l : Int} (h : l = 69 ∨ (103 ≤ l ∧ l ≤ 105) ∨ 120 < l) : Ints.tkB l = true := by
  unfold Ints.tkB
  rcases h with h | ⟨h, h'⟩ | h
  · simp [h]
  · simp [h, h']
  · simp [h]
theorem tk_f {l : Int} (h1 : l ≠ 69) (h2 : l < 103 ∨ 105 < l) (h3 : l ≤ 120) : Ints.tkB l = false := by
  unfold Ints.tkB
  simp [h1]
  omega
theorem fl_a {op : Int} (h : 69 ≤ op ∧ op ≤ 79 ∨ 103 ≤ op ∧ op ≤ 120) : Ints.famB op = true ∧ Ints.famT op = 127 ∧ Ints.famL op = op := ⟨decide_eq_true (by omega), if_pos (by omega), if_pos (by omega)⟩
theorem fl_b {op : Int} (h : 80 ≤ op ∧ op ≤ 90) : Ints.famB op = true ∧ Ints.famT op = 126 ∧ Ints.famL op = op - 11 := ⟨decide_eq_true (by omega), (if_neg (by omega)).trans (if_pos (by omega)), (if_neg (by omega)).trans (if_pos (by omega))⟩
theorem fl_c {op : Int} (h : 121 ≤ op ∧ op ≤ 138) : Ints.famB op = true ∧ Ints.famT op = 126 ∧ Ints.famL op = op - 18 := ⟨decide_eq_true (by omega), (if_neg (by omega)).trans (if_pos (by omega)), (if_neg (by omega)).trans ((if_neg (by omega)).trans (if_pos (by omega)))⟩
theorem gv_c {t l : Int} (h : l ≤ 79) : Ints.gvT t l = 127 := if_pos (.inl h)
theorem gv_t {t l : Int} (h : 79 < l) (h2 : l < 167) : Ints.gvT t l = t := (if_neg (by omega)).trans (if_neg (by omega))
theorem shape_both (op : Int) (h : (69 ≤ op ∧ op ≤ 90) ∨ (103 ≤ op ∧ op ≤ 138) ∨ op = 167 ∨ op = 172 ∨ op = 173) : ShTold 126 op ∧ ShTold 30 op := by
  have b7 : 0 ≤ (127 : Int) ∧ (127 : Int) < 256 := by omega
  have b6 : 0 ≤ (126 : Int) ∧ (126 : Int) < 256 := by omega
  by_cases ha : 69 ≤ op ∧ op ≤ 79
  · obtain ⟨f1, f2, f3⟩ := fl_a (.inl ha)
    have hk : Ints.KindIs op (op - 69) 32 := fun W => Ints.kind_a op W ha.1 ha.2
    by_cases h0 : op = 69
    · subst h0
      exact ⟨sh1_told (Ints.shape_one 69 127 127 f1 (by rw [f3]; decide) f2 (by rw [f3]; decide)) rfl b7, sh1_told (Ints.rsh_0 69 32 127 hk (by decide) (by decide) (by decide) Ints.of_32) rfl b7⟩
    · have e : shT op = ([127, 127], 127) := by unfold shT; rw [if_neg h0, if_pos (by omega)]
      exact ⟨sh2_told (Ints.shape_two op 127 127 f1 (by rw [f3]; exact tk_f h0 (by omega) (by omega)) f2 (by rw [f3]; exact gv_c (by omega))) e b7, sh2_told (Ints.rsh_c op (op - 69) 32 127 hk (by omega) (by omega) (ne_b (by omega)) (ne_b (by omega)) (ne_b (by omega)) Ints.of_32) e b7⟩
  · by_cases hb : 80 ≤ op ∧ op ≤ 90
    · obtain ⟨f1, f2, f3⟩ := fl_b hb
      have hk : Ints.KindIs op (op - 80) 64 := fun W => Ints.kind_b op W hb.1 hb.2
      by_cases h0 : op = 80
      · subst h0
        exact ⟨sh1_told (Ints.shape_one 80 126 127 f1 (by rw [f3]; decide) f2 (by rw [f3]; decide)) rfl b6, sh1_told (Ints.rsh_0 80 64 126 hk (by decide) (by decide) (by decide) Ints.of_64) rfl b6⟩
      · have e : shT op = ([126, 126], 127) := by unfold shT; rw [if_neg (by omega), if_neg (by omega), if_neg h0, if_pos (by omega)]
        exact ⟨sh2_told (Ints.shape_two op 126 127 f1 (by rw [f3]; exact tk_f (by omega) (by omega) (by omega)) f2 (by rw [f3]; exact gv_c (by omega))) e b6, sh2_told (Ints.rsh_c op (op - 80) 64 126 hk (by omega) (by omega) (ne_b (by omega)) (ne_b (by omega)) (ne_b (by omega)) Ints.of_64) e b6⟩
    · by_cases hc : 103 ≤ op ∧ op ≤ 120
      · obtain ⟨f1, f2, f3⟩ := fl_a (.inr hc)
        have hk : Ints.KindIs op (op - 92) 32 := fun W => Ints.kind_c op W hc.1 hc.2
        by_cases h0 : op ≤ 105
        · have e : shT op = ([127], 127) := by unfold shT; rw [if_neg (by omega), if_neg (by omega), if_neg (by omega), if_neg (by omega), if_pos (by omega)]
          exact ⟨sh1_told (Ints.shape_one op 127 127 f1 (by rw [f3]; exact tk_t (by omega)) f2 (by rw [f3]; exact gv_t (by omega) (by omega))) e b7, sh1_told (Ints.rsh_1 op (op - 92) 32 127 hk (by omega) (by omega) (ne_b (by omega)) (ne_b (by omega)) (ne_b (by omega)) Ints.of_32) e b7⟩
        · have e : shT op = ([127, 127], 127) := by unfold shT; rw [if_neg (by omega), if_neg (by omega), if_neg (by omega), if_neg (by omega), if_neg (by omega), if_pos (by omega)]
          exact ⟨sh2_told (Ints.shape_two op 127 127 f1 (by rw [f3]; exact tk_f (by omega) (by omega) (by omega)) f2 (by rw [f3]; exact gv_t (by omega) (by omega))) e b7, sh2_told (Ints.rsh_2 op (op - 92) 32 127 hk (by omega) (ne_b (by omega)) (ne_b (by omega)) (ne_b (by omega)) Ints.of_32) e b7⟩
      · by_cases hd : 121 ≤ op ∧ op ≤ 138
        · obtain ⟨f1, f2, f3⟩ := fl_c hd
          have hk : Ints.KindIs op (op - 110) 64 := fun W => Ints.kind_d op W hd.1 hd.2
          by_cases h0 : op ≤ 123
          · have e : shT op = ([126], 126) := by unfold shT; rw [if_neg (by omega), if_neg (by omega), if_neg (by omega), if_neg (by omega), if_neg (by omega), if_neg (by omega), if_pos (by omega)]
            exact ⟨sh1_told (Ints.shape_one op 126 126 f1 (by rw [f3]; exact tk_t (by omega)) f2 (by rw [f3]; exact gv_t (by omega) (by omega))) e b6, sh1_told (Ints.rsh_1 op (op - 110) 64 126 hk (by omega) (by omega) (ne_b (by omega)) (ne_b (by omega)) (ne_b (by omega)) Ints.of_64) e b6⟩
          · have e : shT op = ([126, 126], 126) := by unfold shT; rw [if_neg (by omega), if_neg (by omega), if_neg (by omega), if_neg (by omega), if_neg (by omega), if_neg (by omega), if_neg (by omega), if_pos (by omega)]
            exact ⟨sh2_told (Ints.shape_two op 126 126 f1 (by rw [f3]; exact tk_f (by omega) (by omega) (by omega)) f2 (by rw [f3]; exact gv_t (by omega) (by omega))) e b6, sh2_told (Ints.rsh_2 op (op - 110) 64 126 hk (by omega) (ne_b (by omega)) (ne_b (by omega)) (ne_b (by omega)) Ints.of_64) e b6⟩
        · by_cases h7 : op = 167
          · subst h7
            exact ⟨sh1_told (Ints.shape_one 167 126 127 (by decide) (by decide) (by decide) (by decide)) rfl b6, sh1_told Ints.rsh_167 rfl b6⟩
          · have he : op = 172 ∨ op = 173 := by omega
            refine ⟨sh1_told (T := 127) (G := 126) (Ints.shape_one op 127 126 ?_ ?_ ?_ ?_) ?_ b7, sh1_told (Ints.rsh_ext op he) ?_ b7⟩ <;> (rcases he with rfl | rfl <;> decide)
end Go.Proofs.YtlappkflnlbfcaaGreatDoor.Chk
end
