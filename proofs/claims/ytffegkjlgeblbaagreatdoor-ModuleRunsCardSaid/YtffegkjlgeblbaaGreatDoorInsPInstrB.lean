/- InsPInstrB. -/
import Derived.Test.YtffegkjlgeblbaaGreatDoorInsPLabels
/- The program's reader: the next instruction, kind by kind, B. -/
namespace Go.Proofs.YtffegkjlgeblbaaGreatDoor.Ins
open Go.RowKit Ints Typ
set_option maxRecDepth 100000
set_option maxHeartbeats 2000000
set_option linter.unusedVariables false

theorem pin_calli {w0 w : World} {v : Value} {l : List Int} {g a : Nat} {e : Int} (hr : Rd w0 v l g w a e) (op e1 : Int) (a1 : Nat) (x : Int) (a2 : Nat) (e2 : Int) (a3 : Nat) (e3 : Int)
    (h1 : a1 ≤ l.length)
    (hop : IntKind.i64.wrap op = op)
    (hB : ∀ W, Rd w0 v l g W a e → Calls Tryz.prog 283 #[.pointer (some ⟨g, 0, none⟩)] W (Turn v g (.int .u8 op) a1 e1 W))
    (hK : ∀ W, Below w0.heap.size w0 W → Calls Tryz.prog 266 #[.int .i64 op] W fun en w' => en = .returned (.int .i64 5) ∧ Below W.heap.size W w')
    (hnumber2 : ∀ W, Rd w0 v l g W a1 e1 → Calls Tryz.prog 286 #[.pointer (some ⟨g, 0, none⟩)] W (Turn v g (.int .i64 x) a2 e2 W))
    (hl2 : a2 ≤ l.length)
    (hzero3 : ∀ W, Rd w0 v l g W a2 e2 → Calls Tryz.prog 288 #[.pointer (some ⟨g, 0, none⟩)] W (Turn v g (.tuple #[]) a3 e3 W))
    (hl3 : a3 ≤ l.length)
    : Calls Tryz.prog 264 #[.pointer (some ⟨g, 0, none⟩)] w (InTold v g op (x) (0) (0) [] a3 e3 w) := by
  have HR := Lib.hid hr
  have HG : Hid (w.heap.size ≠ g) := by have := hr.rd.lt; show _ ≠ _; omega
  have HH1 := Lib.hid h1
  have HB0 := Lib.hid hB
  have HK := Lib.hid hK
  have Hnumber2 := Lib.hid hnumber2
  have Hzero3 := Lib.hid hzero3
  clear hr h1 hB hK hnumber2 hzero3
  go_enter Tryz.func264, Tryz.ntmps264
  go_wp2_with fail
  have HA := Lib.hid ((Below.refl w.heap.size w).alloc (Nat.le_refl _) (.cells #[.int .i64 0, .int .i64 0, .int .i64 0, .int .u64 0, .slice none 0 0] 67))
  refine (HB0.out _ (HR.out.keep HA.out)).mono ?_
  rintro en w1 ⟨rfl, hr1, hb1⟩
  have HR := Lib.hid ((HR.out.keep HA.out).turn hr1 hb1 HH1.out)
  have HO := Lib.hid ((InAt.at_ w w.heap.size 0 0 0 0 (.slice none 0 0) 67 rfl).but hb1 HG.out)
  have HB := Lib.hid (((But.refl g w).allocHigh (.cells #[.int .i64 0, .int .i64 0, .int .i64 0, .int .u64 0, .slice none 0 0] 67)).trans hb1)
  clear hr1 hb1
  go_wp2_with fail
  have HA1 := Lib.hid ((Below.refl w1.heap.size w1).alloc (Nat.le_refl _) (.cells #[.int .i64 op, .int .i64 0, .int .i64 0, .int .u64 0, .slice none 0 0] 67))
  refine (HK.out _ (HR.out.keep HA1.out).below).mono ?_
  rintro en w2 ⟨rfl, hb2⟩
  have HC := Lib.hid (HA1.out.trans (hb2.mono HA1.out.size))
  have HI := Lib.hid ((InAt.at_ w1 w1.heap.size op 0 0 0 (.slice none 0 0) 67 rfl).keep hb2)
  have HHG : Hid (w1.heap.size ≠ g) := by have := HR.out.rd.lt; show _ ≠ _; omega
  have HW0 : Hid (w0.heap.size ≤ w1.heap.size) := HR.out.below.size
  have HWW : Hid (w.heap.size ≤ w1.heap.size) := HB.out.size
  have HHO : Hid (w1.heap.size ≠ w.heap.size) := by have := HO.out.lt; show _ ≠ _; omega
  have HR := Lib.hid (HR.out.keep HC.out)
  have HO := Lib.hid (HO.out.keep HC.out)
  have HB := Lib.hid (HB.out.trans (But.of_below HC.out))
  clear hb2
  obtain ⟨i0, ic0, ic1, ic2, ic3, ic4, if0, if1, if2, if3, if4⟩ := HI.out
  go_wp2_with fail
  refine (Hnumber2.out _ HR.out).mono ?_
  rintro en w3 ⟨rfl, hr, hb⟩
  have HR := Lib.hid (HR.out.turn hr hb hl2)
  have HI := Lib.hid (HI.out.but hb HHG.out)
  have HO := Lib.hid (HO.out.but hb HG.out)
  have HB := Lib.hid (HB.out.trans hb)
  clear hr hb
  clear i0 ic0 ic1 ic2 ic3 ic4 if0 if1 if2 if3 if4
  obtain ⟨i0, ic0, ic1, ic2, ic3, ic4, if0, if1, if2, if3, if4⟩ := HI.out
  go_wp2_with fail
  have HR := Lib.hid (HR.out.far (p := ⟨w1.heap.size, 1, none⟩) HHG.out HW0.out (.int .i64 (x)))
  have HI := Lib.hid (HI.out.setA (x))
  have HO := Lib.hid (HO.out.far (p := ⟨w1.heap.size, 1, none⟩) HHO.out (.int .i64 (x)))
  have HB := Lib.hid (HB.out.setHigh (p := ⟨w1.heap.size, 1, none⟩) HWW.out (.int .i64 (x)))
  refine (Hzero3.out _ HR.out).mono ?_
  rintro en w4 ⟨rfl, hr, hb⟩
  have HR := Lib.hid (HR.out.turn hr hb hl3)
  have HI := Lib.hid (HI.out.but hb HHG.out)
  have HO := Lib.hid (HO.out.but hb HG.out)
  have HB := Lib.hid (HB.out.trans hb)
  clear hr hb
  clear i0 ic0 ic1 ic2 ic3 ic4 if0 if1 if2 if3 if4
  obtain ⟨i0, ic0, ic1, ic2, ic3, ic4, if0, if1, if2, if3, if4⟩ := HI.out
  obtain ⟨o0, oc0, oc1, oc2, oc3, oc4, of0, of1, of2, of3, of4⟩ := HO.out
  go_wp2_with fail
  refine bodyPost_ret (v := .agg #[.int .i64 op, .int .i64 (x), .int .i64 (0), .int .u64 (0), .slice none 0 0]) (by simp [results, Tryz.results264, go_sem, oc0, oc1, oc2, oc3, oc4]) rfl ⟨_, rfl, ownI_nil _ _, ?_, ?_⟩
  · exact (((((HR.out.rd.far (p := ⟨w.heap.size, 0, none⟩) HG.out _).far (p := ⟨w.heap.size, 1, none⟩) HG.out _).far (p := ⟨w.heap.size, 2, none⟩) HG.out _).far (p := ⟨w.heap.size, 3, none⟩) HG.out _).far (p := ⟨w.heap.size, 4, none⟩) HG.out _)
  · exact (((((HB.out.setHigh (p := ⟨w.heap.size, 0, none⟩) (Nat.le_refl _) _).setHigh (p := ⟨w.heap.size, 1, none⟩) (Nat.le_refl _) _).setHigh (p := ⟨w.heap.size, 2, none⟩) (Nat.le_refl _) _).setHigh (p := ⟨w.heap.size, 3, none⟩) (Nat.le_refl _) _).setHigh (p := ⟨w.heap.size, 4, none⟩) (Nat.le_refl _) _)
theorem pin_mem {w0 w : World} {v : Value} {l : List Int} {g a : Nat} {e : Int} (hr : Rd w0 v l g w a e) (op e1 : Int) (a1 : Nat) (x y : Int) (a2 : Nat) (e2 : Int) (a3 : Nat) (e3 : Int)
    (h1 : a1 ≤ l.length)
    (hop : IntKind.i64.wrap op = op)
    (hB : ∀ W, Rd w0 v l g W a e → Calls Tryz.prog 283 #[.pointer (some ⟨g, 0, none⟩)] W (Turn v g (.int .u8 op) a1 e1 W))
    (hK : ∀ W, Below w0.heap.size w0 W → Calls Tryz.prog 266 #[.int .i64 op] W fun en w' => en = .returned (.int .i64 6) ∧ Below W.heap.size W w')
    (hnumber2 : ∀ W, Rd w0 v l g W a1 e1 → Calls Tryz.prog 286 #[.pointer (some ⟨g, 0, none⟩)] W (Turn v g (.int .i64 x) a2 e2 W))
    (hl2 : a2 ≤ l.length)
    (hnumber3 : ∀ W, Rd w0 v l g W a2 e2 → Calls Tryz.prog 286 #[.pointer (some ⟨g, 0, none⟩)] W (Turn v g (.int .i64 y) a3 e3 W))
    (hl3 : a3 ≤ l.length)
    : Calls Tryz.prog 264 #[.pointer (some ⟨g, 0, none⟩)] w (InTold v g op (x) (y) (0) [] a3 e3 w) := by
  have HR := Lib.hid hr
  have HG : Hid (w.heap.size ≠ g) := by have := hr.rd.lt; show _ ≠ _; omega
  have HH1 := Lib.hid h1
  have HB0 := Lib.hid hB
  have HK := Lib.hid hK
  have Hnumber2 := Lib.hid hnumber2
  have Hnumber3 := Lib.hid hnumber3
  clear hr h1 hB hK hnumber2 hnumber3
  go_enter Tryz.func264, Tryz.ntmps264
  go_wp2_with fail
  have HA := Lib.hid ((Below.refl w.heap.size w).alloc (Nat.le_refl _) (.cells #[.int .i64 0, .int .i64 0, .int .i64 0, .int .u64 0, .slice none 0 0] 67))
  refine (HB0.out _ (HR.out.keep HA.out)).mono ?_
  rintro en w1 ⟨rfl, hr1, hb1⟩
  have HR := Lib.hid ((HR.out.keep HA.out).turn hr1 hb1 HH1.out)
  have HO := Lib.hid ((InAt.at_ w w.heap.size 0 0 0 0 (.slice none 0 0) 67 rfl).but hb1 HG.out)
  have HB := Lib.hid (((But.refl g w).allocHigh (.cells #[.int .i64 0, .int .i64 0, .int .i64 0, .int .u64 0, .slice none 0 0] 67)).trans hb1)
  clear hr1 hb1
  go_wp2_with fail
  have HA1 := Lib.hid ((Below.refl w1.heap.size w1).alloc (Nat.le_refl _) (.cells #[.int .i64 op, .int .i64 0, .int .i64 0, .int .u64 0, .slice none 0 0] 67))
  refine (HK.out _ (HR.out.keep HA1.out).below).mono ?_
  rintro en w2 ⟨rfl, hb2⟩
  have HC := Lib.hid (HA1.out.trans (hb2.mono HA1.out.size))
  have HI := Lib.hid ((InAt.at_ w1 w1.heap.size op 0 0 0 (.slice none 0 0) 67 rfl).keep hb2)
  have HHG : Hid (w1.heap.size ≠ g) := by have := HR.out.rd.lt; show _ ≠ _; omega
  have HW0 : Hid (w0.heap.size ≤ w1.heap.size) := HR.out.below.size
  have HWW : Hid (w.heap.size ≤ w1.heap.size) := HB.out.size
  have HHO : Hid (w1.heap.size ≠ w.heap.size) := by have := HO.out.lt; show _ ≠ _; omega
  have HR := Lib.hid (HR.out.keep HC.out)
  have HO := Lib.hid (HO.out.keep HC.out)
  have HB := Lib.hid (HB.out.trans (But.of_below HC.out))
  clear hb2
  obtain ⟨i0, ic0, ic1, ic2, ic3, ic4, if0, if1, if2, if3, if4⟩ := HI.out
  go_wp2_with fail
  refine (Hnumber2.out _ HR.out).mono ?_
  rintro en w3 ⟨rfl, hr, hb⟩
  have HR := Lib.hid (HR.out.turn hr hb hl2)
  have HI := Lib.hid (HI.out.but hb HHG.out)
  have HO := Lib.hid (HO.out.but hb HG.out)
  have HB := Lib.hid (HB.out.trans hb)
  clear hr hb
  clear i0 ic0 ic1 ic2 ic3 ic4 if0 if1 if2 if3 if4
  obtain ⟨i0, ic0, ic1, ic2, ic3, ic4, if0, if1, if2, if3, if4⟩ := HI.out
  go_wp2_with fail
  have HR := Lib.hid (HR.out.far (p := ⟨w1.heap.size, 1, none⟩) HHG.out HW0.out (.int .i64 (x)))
  have HI := Lib.hid (HI.out.setA (x))
  have HO := Lib.hid (HO.out.far (p := ⟨w1.heap.size, 1, none⟩) HHO.out (.int .i64 (x)))
  have HB := Lib.hid (HB.out.setHigh (p := ⟨w1.heap.size, 1, none⟩) HWW.out (.int .i64 (x)))
  refine (Hnumber3.out _ HR.out).mono ?_
  rintro en w4 ⟨rfl, hr, hb⟩
  have HR := Lib.hid (HR.out.turn hr hb hl3)
  have HI := Lib.hid (HI.out.but hb HHG.out)
  have HO := Lib.hid (HO.out.but hb HG.out)
  have HB := Lib.hid (HB.out.trans hb)
  clear hr hb
  clear i0 ic0 ic1 ic2 ic3 ic4 if0 if1 if2 if3 if4
  obtain ⟨i0, ic0, ic1, ic2, ic3, ic4, if0, if1, if2, if3, if4⟩ := HI.out
  obtain ⟨o0, oc0, oc1, oc2, oc3, oc4, of0, of1, of2, of3, of4⟩ := HO.out
  have hn1 : w1.heap.size ≠ w.heap.size := HHO.out
  have hn2 : w.heap.size ≠ w1.heap.size := fun e => HHO.out e.symm
  go_wp2_with fail
  have HR := Lib.hid (HR.out.far (p := ⟨w1.heap.size, 2, none⟩) HHG.out HW0.out (.int .i64 (y)))
  have HI := Lib.hid (HI.out.setB (y))
  have HO := Lib.hid (HO.out.far (p := ⟨w1.heap.size, 2, none⟩) HHO.out (.int .i64 (y)))
  have HB := Lib.hid (HB.out.setHigh (p := ⟨w1.heap.size, 2, none⟩) HWW.out (.int .i64 (y)))
  refine bodyPost_ret (v := .agg #[.int .i64 op, .int .i64 (x), .int .i64 (y), .int .u64 (0), .slice none 0 0]) (by simp [results, Tryz.results264, go_sem, oc0, oc1, oc2, oc3, oc4]) rfl ⟨_, rfl, ownI_nil _ _, ?_, ?_⟩
  · exact (((((HR.out.rd.far (p := ⟨w.heap.size, 0, none⟩) HG.out _).far (p := ⟨w.heap.size, 1, none⟩) HG.out _).far (p := ⟨w.heap.size, 2, none⟩) HG.out _).far (p := ⟨w.heap.size, 3, none⟩) HG.out _).far (p := ⟨w.heap.size, 4, none⟩) HG.out _)
  · exact (((((HB.out.setHigh (p := ⟨w.heap.size, 0, none⟩) (Nat.le_refl _) _).setHigh (p := ⟨w.heap.size, 1, none⟩) (Nat.le_refl _) _).setHigh (p := ⟨w.heap.size, 2, none⟩) (Nat.le_refl _) _).setHigh (p := ⟨w.heap.size, 3, none⟩) (Nat.le_refl _) _).setHigh (p := ⟨w.heap.size, 4, none⟩) (Nat.le_refl _) _)
theorem pin_memop {w0 w : World} {v : Value} {l : List Int} {g a : Nat} {e : Int} (hr : Rd w0 v l g w a e) (op e1 : Int) (a1 : Nat) (a2 : Nat) (e2 : Int)
    (h1 : a1 ≤ l.length)
    (hop : IntKind.i64.wrap op = op)
    (hB : ∀ W, Rd w0 v l g W a e → Calls Tryz.prog 283 #[.pointer (some ⟨g, 0, none⟩)] W (Turn v g (.int .u8 op) a1 e1 W))
    (hK : ∀ W, Below w0.heap.size w0 W → Calls Tryz.prog 266 #[.int .i64 op] W fun en w' => en = .returned (.int .i64 7) ∧ Below W.heap.size W w')
    (hzero2 : ∀ W, Rd w0 v l g W a1 e1 → Calls Tryz.prog 288 #[.pointer (some ⟨g, 0, none⟩)] W (Turn v g (.tuple #[]) a2 e2 W))
    (hl2 : a2 ≤ l.length)
    : Calls Tryz.prog 264 #[.pointer (some ⟨g, 0, none⟩)] w (InTold v g op (0) (0) (0) [] a2 e2 w) := by
  have HR := Lib.hid hr
  have HG : Hid (w.heap.size ≠ g) := by have := hr.rd.lt; show _ ≠ _; omega
  have HH1 := Lib.hid h1
  have HB0 := Lib.hid hB
  have HK := Lib.hid hK
  have Hzero2 := Lib.hid hzero2
  clear hr h1 hB hK hzero2
  go_enter Tryz.func264, Tryz.ntmps264
  go_wp2_with fail
  have HA := Lib.hid ((Below.refl w.heap.size w).alloc (Nat.le_refl _) (.cells #[.int .i64 0, .int .i64 0, .int .i64 0, .int .u64 0, .slice none 0 0] 67))
  refine (HB0.out _ (HR.out.keep HA.out)).mono ?_
  rintro en w1 ⟨rfl, hr1, hb1⟩
  have HR := Lib.hid ((HR.out.keep HA.out).turn hr1 hb1 HH1.out)
  have HO := Lib.hid ((InAt.at_ w w.heap.size 0 0 0 0 (.slice none 0 0) 67 rfl).but hb1 HG.out)
  have HB := Lib.hid (((But.refl g w).allocHigh (.cells #[.int .i64 0, .int .i64 0, .int .i64 0, .int .u64 0, .slice none 0 0] 67)).trans hb1)
  clear hr1 hb1
  go_wp2_with fail
  have HA1 := Lib.hid ((Below.refl w1.heap.size w1).alloc (Nat.le_refl _) (.cells #[.int .i64 op, .int .i64 0, .int .i64 0, .int .u64 0, .slice none 0 0] 67))
  refine (HK.out _ (HR.out.keep HA1.out).below).mono ?_
  rintro en w2 ⟨rfl, hb2⟩
  have HC := Lib.hid (HA1.out.trans (hb2.mono HA1.out.size))
  have HI := Lib.hid ((InAt.at_ w1 w1.heap.size op 0 0 0 (.slice none 0 0) 67 rfl).keep hb2)
  have HHG : Hid (w1.heap.size ≠ g) := by have := HR.out.rd.lt; show _ ≠ _; omega
  have HW0 : Hid (w0.heap.size ≤ w1.heap.size) := HR.out.below.size
  have HWW : Hid (w.heap.size ≤ w1.heap.size) := HB.out.size
  have HHO : Hid (w1.heap.size ≠ w.heap.size) := by have := HO.out.lt; show _ ≠ _; omega
  have HR := Lib.hid (HR.out.keep HC.out)
  have HO := Lib.hid (HO.out.keep HC.out)
  have HB := Lib.hid (HB.out.trans (But.of_below HC.out))
  clear hb2
  obtain ⟨i0, ic0, ic1, ic2, ic3, ic4, if0, if1, if2, if3, if4⟩ := HI.out
  go_wp2_with fail
  refine (Hzero2.out _ HR.out).mono ?_
  rintro en w3 ⟨rfl, hr, hb⟩
  have HR := Lib.hid (HR.out.turn hr hb hl2)
  have HI := Lib.hid (HI.out.but hb HHG.out)
  have HO := Lib.hid (HO.out.but hb HG.out)
  have HB := Lib.hid (HB.out.trans hb)
  clear hr hb
  clear i0 ic0 ic1 ic2 ic3 ic4 if0 if1 if2 if3 if4
  obtain ⟨i0, ic0, ic1, ic2, ic3, ic4, if0, if1, if2, if3, if4⟩ := HI.out
  obtain ⟨o0, oc0, oc1, oc2, oc3, oc4, of0, of1, of2, of3, of4⟩ := HO.out
  go_wp2_with fail
  refine bodyPost_ret (v := .agg #[.int .i64 op, .int .i64 (0), .int .i64 (0), .int .u64 (0), .slice none 0 0]) (by simp [results, Tryz.results264, go_sem, oc0, oc1, oc2, oc3, oc4]) rfl ⟨_, rfl, ownI_nil _ _, ?_, ?_⟩
  · exact (((((HR.out.rd.far (p := ⟨w.heap.size, 0, none⟩) HG.out _).far (p := ⟨w.heap.size, 1, none⟩) HG.out _).far (p := ⟨w.heap.size, 2, none⟩) HG.out _).far (p := ⟨w.heap.size, 3, none⟩) HG.out _).far (p := ⟨w.heap.size, 4, none⟩) HG.out _)
  · exact (((((HB.out.setHigh (p := ⟨w.heap.size, 0, none⟩) (Nat.le_refl _) _).setHigh (p := ⟨w.heap.size, 1, none⟩) (Nat.le_refl _) _).setHigh (p := ⟨w.heap.size, 2, none⟩) (Nat.le_refl _) _).setHigh (p := ⟨w.heap.size, 3, none⟩) (Nat.le_refl _) _).setHigh (p := ⟨w.heap.size, 4, none⟩) (Nat.le_refl _) _)
theorem pin_c32 {w0 w : World} {v : Value} {l : List Int} {g a : Nat} {e : Int} (hr : Rd w0 v l g w a e) (op e1 : Int) (a1 : Nat) (x k : Int) (a2 : Nat) (e2 : Int)
    (h1 : a1 ≤ l.length)
    (hop : IntKind.i64.wrap op = op)
    (hB : ∀ W, Rd w0 v l g W a e → Calls Tryz.prog 283 #[.pointer (some ⟨g, 0, none⟩)] W (Turn v g (.int .u8 op) a1 e1 W))
    (hK : ∀ W, Below w0.heap.size w0 W → Calls Tryz.prog 266 #[.int .i64 op] W fun en w' => en = .returned (.int .i64 8) ∧ Below W.heap.size W w')
    (hsigned2 : ∀ W, Rd w0 v l g W a1 e1 → Calls Tryz.prog 290 #[.pointer (some ⟨g, 0, none⟩), .int .i64 32] W (Turn v g (.int .i64 x) a2 e2 W))
    (hl2 : a2 ≤ l.length)
    (hV : ∀ W, Calls Tryz.prog 289 #[.int .u8 127, .int .i64 x] W fun en w' => en = .returned (.int .u64 k) ∧ W = w')
    : Calls Tryz.prog 264 #[.pointer (some ⟨g, 0, none⟩)] w (InTold v g op (0) (0) (k) [] a2 e2 w) := by
  have HR := Lib.hid hr
  have HG : Hid (w.heap.size ≠ g) := by have := hr.rd.lt; show _ ≠ _; omega
  have HH1 := Lib.hid h1
  have HB0 := Lib.hid hB
  have HK := Lib.hid hK
  have Hsigned2 := Lib.hid hsigned2
  have HV := Lib.hid hV
  clear hr h1 hB hK hsigned2 hV
  go_enter Tryz.func264, Tryz.ntmps264
  go_wp2_with fail
  have HA := Lib.hid ((Below.refl w.heap.size w).alloc (Nat.le_refl _) (.cells #[.int .i64 0, .int .i64 0, .int .i64 0, .int .u64 0, .slice none 0 0] 67))
  refine (HB0.out _ (HR.out.keep HA.out)).mono ?_
  rintro en w1 ⟨rfl, hr1, hb1⟩
  have HR := Lib.hid ((HR.out.keep HA.out).turn hr1 hb1 HH1.out)
  have HO := Lib.hid ((InAt.at_ w w.heap.size 0 0 0 0 (.slice none 0 0) 67 rfl).but hb1 HG.out)
  have HB := Lib.hid (((But.refl g w).allocHigh (.cells #[.int .i64 0, .int .i64 0, .int .i64 0, .int .u64 0, .slice none 0 0] 67)).trans hb1)
  clear hr1 hb1
  go_wp2_with fail
  have HA1 := Lib.hid ((Below.refl w1.heap.size w1).alloc (Nat.le_refl _) (.cells #[.int .i64 op, .int .i64 0, .int .i64 0, .int .u64 0, .slice none 0 0] 67))
  refine (HK.out _ (HR.out.keep HA1.out).below).mono ?_
  rintro en w2 ⟨rfl, hb2⟩
  have HC := Lib.hid (HA1.out.trans (hb2.mono HA1.out.size))
  have HI := Lib.hid ((InAt.at_ w1 w1.heap.size op 0 0 0 (.slice none 0 0) 67 rfl).keep hb2)
  have HHG : Hid (w1.heap.size ≠ g) := by have := HR.out.rd.lt; show _ ≠ _; omega
  have HW0 : Hid (w0.heap.size ≤ w1.heap.size) := HR.out.below.size
  have HWW : Hid (w.heap.size ≤ w1.heap.size) := HB.out.size
  have HHO : Hid (w1.heap.size ≠ w.heap.size) := by have := HO.out.lt; show _ ≠ _; omega
  have HR := Lib.hid (HR.out.keep HC.out)
  have HO := Lib.hid (HO.out.keep HC.out)
  have HB := Lib.hid (HB.out.trans (But.of_below HC.out))
  clear hb2
  obtain ⟨i0, ic0, ic1, ic2, ic3, ic4, if0, if1, if2, if3, if4⟩ := HI.out
  go_wp2_with fail
  refine (Hsigned2.out _ HR.out).mono ?_
  rintro en w3 ⟨rfl, hr, hb⟩
  have HR := Lib.hid (HR.out.turn hr hb hl2)
  have HI := Lib.hid (HI.out.but hb HHG.out)
  have HO := Lib.hid (HO.out.but hb HG.out)
  have HB := Lib.hid (HB.out.trans hb)
  clear hr hb
  clear i0 ic0 ic1 ic2 ic3 ic4 if0 if1 if2 if3 if4
  obtain ⟨i0, ic0, ic1, ic2, ic3, ic4, if0, if1, if2, if3, if4⟩ := HI.out
  go_wp2_with fail
  refine (HV.out _).mono ?_
  rintro en wv ⟨rfl, rfl⟩
  clear i0 ic0 ic1 ic2 ic3 ic4 if0 if1 if2 if3 if4
  obtain ⟨i0, ic0, ic1, ic2, ic3, ic4, if0, if1, if2, if3, if4⟩ := HI.out
  obtain ⟨o0, oc0, oc1, oc2, oc3, oc4, of0, of1, of2, of3, of4⟩ := HO.out
  have hn1 : w1.heap.size ≠ w.heap.size := HHO.out
  have hn2 : w.heap.size ≠ w1.heap.size := fun e => HHO.out e.symm
  go_wp2_with fail
  have HR := Lib.hid (HR.out.far (p := ⟨w1.heap.size, 3, none⟩) HHG.out HW0.out (.int .u64 (k)))
  have HI := Lib.hid (HI.out.setK (k))
  have HO := Lib.hid (HO.out.far (p := ⟨w1.heap.size, 3, none⟩) HHO.out (.int .u64 (k)))
  have HB := Lib.hid (HB.out.setHigh (p := ⟨w1.heap.size, 3, none⟩) HWW.out (.int .u64 (k)))
  refine bodyPost_ret (v := .agg #[.int .i64 op, .int .i64 (0), .int .i64 (0), .int .u64 (k), .slice none 0 0]) (by simp [results, Tryz.results264, go_sem, oc0, oc1, oc2, oc3, oc4]) rfl ⟨_, rfl, ownI_nil _ _, ?_, ?_⟩
  · exact (((((HR.out.rd.far (p := ⟨w.heap.size, 0, none⟩) HG.out _).far (p := ⟨w.heap.size, 1, none⟩) HG.out _).far (p := ⟨w.heap.size, 2, none⟩) HG.out _).far (p := ⟨w.heap.size, 3, none⟩) HG.out _).far (p := ⟨w.heap.size, 4, none⟩) HG.out _)
  · exact (((((HB.out.setHigh (p := ⟨w.heap.size, 0, none⟩) (Nat.le_refl _) _).setHigh (p := ⟨w.heap.size, 1, none⟩) (Nat.le_refl _) _).setHigh (p := ⟨w.heap.size, 2, none⟩) (Nat.le_refl _) _).setHigh (p := ⟨w.heap.size, 3, none⟩) (Nat.le_refl _) _).setHigh (p := ⟨w.heap.size, 4, none⟩) (Nat.le_refl _) _)
theorem pin_c64 {w0 w : World} {v : Value} {l : List Int} {g a : Nat} {e : Int} (hr : Rd w0 v l g w a e) (op e1 : Int) (a1 : Nat) (x k : Int) (a2 : Nat) (e2 : Int)
    (h1 : a1 ≤ l.length)
    (hop : IntKind.i64.wrap op = op)
    (hB : ∀ W, Rd w0 v l g W a e → Calls Tryz.prog 283 #[.pointer (some ⟨g, 0, none⟩)] W (Turn v g (.int .u8 op) a1 e1 W))
    (hK : ∀ W, Below w0.heap.size w0 W → Calls Tryz.prog 266 #[.int .i64 op] W fun en w' => en = .returned (.int .i64 9) ∧ Below W.heap.size W w')
    (hsigned2 : ∀ W, Rd w0 v l g W a1 e1 → Calls Tryz.prog 290 #[.pointer (some ⟨g, 0, none⟩), .int .i64 64] W (Turn v g (.int .i64 x) a2 e2 W))
    (hl2 : a2 ≤ l.length)
    (hV : ∀ W, Calls Tryz.prog 289 #[.int .u8 126, .int .i64 x] W fun en w' => en = .returned (.int .u64 k) ∧ W = w')
    : Calls Tryz.prog 264 #[.pointer (some ⟨g, 0, none⟩)] w (InTold v g op (0) (0) (k) [] a2 e2 w) := by
  have HR := Lib.hid hr
  have HG : Hid (w.heap.size ≠ g) := by have := hr.rd.lt; show _ ≠ _; omega
  have HH1 := Lib.hid h1
  have HB0 := Lib.hid hB
  have HK := Lib.hid hK
  have Hsigned2 := Lib.hid hsigned2
  have HV := Lib.hid hV
  clear hr h1 hB hK hsigned2 hV
  go_enter Tryz.func264, Tryz.ntmps264
  go_wp2_with fail
  have HA := Lib.hid ((Below.refl w.heap.size w).alloc (Nat.le_refl _) (.cells #[.int .i64 0, .int .i64 0, .int .i64 0, .int .u64 0, .slice none 0 0] 67))
  refine (HB0.out _ (HR.out.keep HA.out)).mono ?_
  rintro en w1 ⟨rfl, hr1, hb1⟩
  have HR := Lib.hid ((HR.out.keep HA.out).turn hr1 hb1 HH1.out)
  have HO := Lib.hid ((InAt.at_ w w.heap.size 0 0 0 0 (.slice none 0 0) 67 rfl).but hb1 HG.out)
  have HB := Lib.hid (((But.refl g w).allocHigh (.cells #[.int .i64 0, .int .i64 0, .int .i64 0, .int .u64 0, .slice none 0 0] 67)).trans hb1)
  clear hr1 hb1
  go_wp2_with fail
  have HA1 := Lib.hid ((Below.refl w1.heap.size w1).alloc (Nat.le_refl _) (.cells #[.int .i64 op, .int .i64 0, .int .i64 0, .int .u64 0, .slice none 0 0] 67))
  refine (HK.out _ (HR.out.keep HA1.out).below).mono ?_
  rintro en w2 ⟨rfl, hb2⟩
  have HC := Lib.hid (HA1.out.trans (hb2.mono HA1.out.size))
  have HI := Lib.hid ((InAt.at_ w1 w1.heap.size op 0 0 0 (.slice none 0 0) 67 rfl).keep hb2)
  have HHG : Hid (w1.heap.size ≠ g) := by have := HR.out.rd.lt; show _ ≠ _; omega
  have HW0 : Hid (w0.heap.size ≤ w1.heap.size) := HR.out.below.size
  have HWW : Hid (w.heap.size ≤ w1.heap.size) := HB.out.size
  have HHO : Hid (w1.heap.size ≠ w.heap.size) := by have := HO.out.lt; show _ ≠ _; omega
  have HR := Lib.hid (HR.out.keep HC.out)
  have HO := Lib.hid (HO.out.keep HC.out)
  have HB := Lib.hid (HB.out.trans (But.of_below HC.out))
  clear hb2
  obtain ⟨i0, ic0, ic1, ic2, ic3, ic4, if0, if1, if2, if3, if4⟩ := HI.out
  go_wp2_with fail
  refine (Hsigned2.out _ HR.out).mono ?_
  rintro en w3 ⟨rfl, hr, hb⟩
  have HR := Lib.hid (HR.out.turn hr hb hl2)
  have HI := Lib.hid (HI.out.but hb HHG.out)
  have HO := Lib.hid (HO.out.but hb HG.out)
  have HB := Lib.hid (HB.out.trans hb)
  clear hr hb
  clear i0 ic0 ic1 ic2 ic3 ic4 if0 if1 if2 if3 if4
  obtain ⟨i0, ic0, ic1, ic2, ic3, ic4, if0, if1, if2, if3, if4⟩ := HI.out
  go_wp2_with fail
  refine (HV.out _).mono ?_
  rintro en wv ⟨rfl, rfl⟩
  clear i0 ic0 ic1 ic2 ic3 ic4 if0 if1 if2 if3 if4
  obtain ⟨i0, ic0, ic1, ic2, ic3, ic4, if0, if1, if2, if3, if4⟩ := HI.out
  obtain ⟨o0, oc0, oc1, oc2, oc3, oc4, of0, of1, of2, of3, of4⟩ := HO.out
  have hn1 : w1.heap.size ≠ w.heap.size := HHO.out
  have hn2 : w.heap.size ≠ w1.heap.size := fun e => HHO.out e.symm
  go_wp2_with fail
  have HR := Lib.hid (HR.out.far (p := ⟨w1.heap.size, 3, none⟩) HHG.out HW0.out (.int .u64 (k)))
  have HI := Lib.hid (HI.out.setK (k))
  have HO := Lib.hid (HO.out.far (p := ⟨w1.heap.size, 3, none⟩) HHO.out (.int .u64 (k)))
  have HB := Lib.hid (HB.out.setHigh (p := ⟨w1.heap.size, 3, none⟩) HWW.out (.int .u64 (k)))
  refine bodyPost_ret (v := .agg #[.int .i64 op, .int .i64 (0), .int .i64 (0), .int .u64 (k), .slice none 0 0]) (by simp [results, Tryz.results264, go_sem, oc0, oc1, oc2, oc3, oc4]) rfl ⟨_, rfl, ownI_nil _ _, ?_, ?_⟩
  · exact (((((HR.out.rd.far (p := ⟨w.heap.size, 0, none⟩) HG.out _).far (p := ⟨w.heap.size, 1, none⟩) HG.out _).far (p := ⟨w.heap.size, 2, none⟩) HG.out _).far (p := ⟨w.heap.size, 3, none⟩) HG.out _).far (p := ⟨w.heap.size, 4, none⟩) HG.out _)
  · exact (((((HB.out.setHigh (p := ⟨w.heap.size, 0, none⟩) (Nat.le_refl _) _).setHigh (p := ⟨w.heap.size, 1, none⟩) (Nat.le_refl _) _).setHigh (p := ⟨w.heap.size, 2, none⟩) (Nat.le_refl _) _).setHigh (p := ⟨w.heap.size, 3, none⟩) (Nat.le_refl _) _).setHigh (p := ⟨w.heap.size, 4, none⟩) (Nat.le_refl _) _)
end Go.Proofs.YtffegkjlgeblbaaGreatDoor.Ins
