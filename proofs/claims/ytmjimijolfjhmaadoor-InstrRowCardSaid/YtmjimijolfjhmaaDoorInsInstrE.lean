/- The document's reader: the next instruction: E. -/
import Derived.Test.YtmjimijolfjhmaaDoorInsInstr
namespace Go.Proofs.YtmjimijolfjhmaaDoor.Ins
open Go.RowKit Ints Typ
set_option maxRecDepth 100000
set_option maxHeartbeats 2000000

theorem ins_plain {w0 w : World} {v : Value} {l : List Int} {g a : Nat} {e : Int} (hr : Rd w0 v l g w a e) (op e1 : Int) (a1 : Nat)
    (h1 : a1 ≤ l.length)
    (hB : ∀ W, Rd w0 v l g W a e → Calls Tryd.prog 48 #[.pointer (some ⟨g, 0, none⟩)] W (Turn v g (.int .i64 op) a1 e1 W))
    (hK : ∀ W, Calls Tryd.prog 22 #[.int .i64 op] W fun en w' => en = .returned (.int .i64 1) ∧ Below W.heap.size W w')
    : Calls Tryd.prog 25 #[.pointer (some ⟨g, 0, none⟩)] w (InTold v g op (0) (0) (0) [] a1 e1 w) := by
  have HR := Lib.hid hr
  have HG : Hid (w.heap.size ≠ g) := by have := hr.rd.lt; show _ ≠ _; omega
  have HH1 := Lib.hid h1
  have HB0 := Lib.hid hB
  have HK := Lib.hid hK
  clear hr h1 hB hK
  go_enter Tryd.func25, Tryd.ntmps25
  go_wp2_with fail
  have HA := Lib.hid ((Below.refl w.heap.size w).alloc (Nat.le_refl _) (.cells #[.int .i64 0, .int .i64 0, .int .i64 0, .int .u64 0, .slice none 0 0] 26))
  refine (HB0.out _ (HR.out.keep HA.out)).mono ?_
  rintro en w1 ⟨rfl, hr1, hb1⟩
  have HR := Lib.hid ((HR.out.keep HA.out).turn hr1 hb1 HH1.out)
  have HO := Lib.hid ((InAt.at_ w w.heap.size 0 0 0 0 (.slice none 0 0) 26 rfl).but hb1 HG.out)
  have HB := Lib.hid (((But.refl g w).allocHigh (.cells #[.int .i64 0, .int .i64 0, .int .i64 0, .int .u64 0, .slice none 0 0] 26)).trans hb1)
  clear hr1 hb1
  go_wp2_with fail
  have HA1 := Lib.hid ((Below.refl w1.heap.size w1).alloc (Nat.le_refl _) (.cells #[.int .i64 op, .int .i64 0, .int .i64 0, .int .u64 0, .slice none 0 0] 26))
  refine (HK.out _).mono ?_
  rintro en w2 ⟨rfl, hb2⟩
  have HC := Lib.hid (HA1.out.trans (hb2.mono HA1.out.size))
  have HI := Lib.hid ((InAt.at_ w1 w1.heap.size op 0 0 0 (.slice none 0 0) 26 rfl).keep hb2)
  have HHG : Hid (w1.heap.size ≠ g) := by have := HR.out.rd.lt; show _ ≠ _; omega
  have HW0 : Hid (w0.heap.size ≤ w1.heap.size) := HR.out.below.size
  have HWW : Hid (w.heap.size ≤ w1.heap.size) := HB.out.size
  have HHO : Hid (w1.heap.size ≠ w.heap.size) := by have := HO.out.lt; show _ ≠ _; omega
  have HR := Lib.hid (HR.out.keep HC.out)
  have HO := Lib.hid (HO.out.keep HC.out)
  have HB := Lib.hid (HB.out.trans (But.of_below HC.out))
  clear hb2
  obtain ⟨i0, ic0, ic1, ic2, ic3, ic4, if0, if1, if2, if3, if4⟩ := HI.out
  go_wp2_with fail
  refine (fail_no 3 HR.out).mono ?_
  rintro en w3 ⟨rfl, hr, hb⟩
  have HR := Lib.hid (HR.out.turn hr hb HR.out.at_le)
  have HI := Lib.hid (HI.out.but hb HHG.out)
  have HO := Lib.hid (HO.out.but hb HG.out)
  have HB := Lib.hid (HB.out.trans hb)
  clear hr hb
  clear i0 ic0 ic1 ic2 ic3 ic4 if0 if1 if2 if3 if4
  obtain ⟨i0, ic0, ic1, ic2, ic3, ic4, if0, if1, if2, if3, if4⟩ := HI.out
  obtain ⟨o0, oc0, oc1, oc2, oc3, oc4, of0, of1, of2, of3, of4⟩ := HO.out
  go_wp2_with fail
  refine bodyPost_ret (v := .agg #[.int .i64 op, .int .i64 (0), .int .i64 (0), .int .u64 (0), .slice none 0 0]) (by simp [results, Tryd.results25, go_sem, oc0, oc1, oc2, oc3, oc4]) rfl ⟨_, rfl, ownI_nil _ _, ?_, ?_⟩
  · exact (((((HR.out.rd.far (p := ⟨w.heap.size, 0, none⟩) HG.out _).far (p := ⟨w.heap.size, 1, none⟩) HG.out _).far (p := ⟨w.heap.size, 2, none⟩) HG.out _).far (p := ⟨w.heap.size, 3, none⟩) HG.out _).far (p := ⟨w.heap.size, 4, none⟩) HG.out _)
  · exact (((((HB.out.setHigh (p := ⟨w.heap.size, 0, none⟩) (Nat.le_refl _) _).setHigh (p := ⟨w.heap.size, 1, none⟩) (Nat.le_refl _) _).setHigh (p := ⟨w.heap.size, 2, none⟩) (Nat.le_refl _) _).setHigh (p := ⟨w.heap.size, 3, none⟩) (Nat.le_refl _) _).setHigh (p := ⟨w.heap.size, 4, none⟩) (Nat.le_refl _) _)
theorem ins_bad {w0 w : World} {v : Value} {l : List Int} {g a : Nat} {e : Int} (hr : Rd w0 v l g w a e) (op e1 : Int) (a1 : Nat) (f2 : Int)
    (h1 : a1 ≤ l.length)
    (hB : ∀ W, Rd w0 v l g W a e → Calls Tryd.prog 48 #[.pointer (some ⟨g, 0, none⟩)] W (Turn v g (.int .i64 op) a1 e1 W))
    (hK : ∀ W, Calls Tryd.prog 22 #[.int .i64 op] W fun en w' => en = .returned (.int .i64 0) ∧ Below W.heap.size W w')
    (hF2 : ∀ W, Rd w0 v l g W a1 e1 → Calls Tryd.prog 49 #[.pointer (some ⟨g, 0, none⟩), .bool true, .int .i64 3] W (Turn v g (.tuple #[]) a1 f2 W))
    : Calls Tryd.prog 25 #[.pointer (some ⟨g, 0, none⟩)] w (InTold v g op (0) (0) (0) [] a1 f2 w) := by
  have HR := Lib.hid hr
  have HG : Hid (w.heap.size ≠ g) := by have := hr.rd.lt; show _ ≠ _; omega
  have HH1 := Lib.hid h1
  have HB0 := Lib.hid hB
  have HK := Lib.hid hK
  have HF2 := Lib.hid hF2
  clear hr h1 hB hK hF2
  go_enter Tryd.func25, Tryd.ntmps25
  go_wp2_with fail
  have HA := Lib.hid ((Below.refl w.heap.size w).alloc (Nat.le_refl _) (.cells #[.int .i64 0, .int .i64 0, .int .i64 0, .int .u64 0, .slice none 0 0] 26))
  refine (HB0.out _ (HR.out.keep HA.out)).mono ?_
  rintro en w1 ⟨rfl, hr1, hb1⟩
  have HR := Lib.hid ((HR.out.keep HA.out).turn hr1 hb1 HH1.out)
  have HO := Lib.hid ((InAt.at_ w w.heap.size 0 0 0 0 (.slice none 0 0) 26 rfl).but hb1 HG.out)
  have HB := Lib.hid (((But.refl g w).allocHigh (.cells #[.int .i64 0, .int .i64 0, .int .i64 0, .int .u64 0, .slice none 0 0] 26)).trans hb1)
  clear hr1 hb1
  go_wp2_with fail
  have HA1 := Lib.hid ((Below.refl w1.heap.size w1).alloc (Nat.le_refl _) (.cells #[.int .i64 op, .int .i64 0, .int .i64 0, .int .u64 0, .slice none 0 0] 26))
  refine (HK.out _).mono ?_
  rintro en w2 ⟨rfl, hb2⟩
  have HC := Lib.hid (HA1.out.trans (hb2.mono HA1.out.size))
  have HI := Lib.hid ((InAt.at_ w1 w1.heap.size op 0 0 0 (.slice none 0 0) 26 rfl).keep hb2)
  have HHG : Hid (w1.heap.size ≠ g) := by have := HR.out.rd.lt; show _ ≠ _; omega
  have HW0 : Hid (w0.heap.size ≤ w1.heap.size) := HR.out.below.size
  have HWW : Hid (w.heap.size ≤ w1.heap.size) := HB.out.size
  have HHO : Hid (w1.heap.size ≠ w.heap.size) := by have := HO.out.lt; show _ ≠ _; omega
  have HR := Lib.hid (HR.out.keep HC.out)
  have HO := Lib.hid (HO.out.keep HC.out)
  have HB := Lib.hid (HB.out.trans (But.of_below HC.out))
  clear hb2
  obtain ⟨i0, ic0, ic1, ic2, ic3, ic4, if0, if1, if2, if3, if4⟩ := HI.out
  go_wp2_with fail
  refine (HF2.out _ HR.out).mono ?_
  rintro en w3 ⟨rfl, hr, hb⟩
  have HR := Lib.hid (HR.out.turn hr hb HR.out.at_le)
  have HI := Lib.hid (HI.out.but hb HHG.out)
  have HO := Lib.hid (HO.out.but hb HG.out)
  have HB := Lib.hid (HB.out.trans hb)
  clear hr hb
  clear i0 ic0 ic1 ic2 ic3 ic4 if0 if1 if2 if3 if4
  obtain ⟨i0, ic0, ic1, ic2, ic3, ic4, if0, if1, if2, if3, if4⟩ := HI.out
  obtain ⟨o0, oc0, oc1, oc2, oc3, oc4, of0, of1, of2, of3, of4⟩ := HO.out
  go_wp2_with fail
  refine bodyPost_ret (v := .agg #[.int .i64 op, .int .i64 (0), .int .i64 (0), .int .u64 (0), .slice none 0 0]) (by simp [results, Tryd.results25, go_sem, oc0, oc1, oc2, oc3, oc4]) rfl ⟨_, rfl, ownI_nil _ _, ?_, ?_⟩
  · exact (((((HR.out.rd.far (p := ⟨w.heap.size, 0, none⟩) HG.out _).far (p := ⟨w.heap.size, 1, none⟩) HG.out _).far (p := ⟨w.heap.size, 2, none⟩) HG.out _).far (p := ⟨w.heap.size, 3, none⟩) HG.out _).far (p := ⟨w.heap.size, 4, none⟩) HG.out _)
  · exact (((((HB.out.setHigh (p := ⟨w.heap.size, 0, none⟩) (Nat.le_refl _) _).setHigh (p := ⟨w.heap.size, 1, none⟩) (Nat.le_refl _) _).setHigh (p := ⟨w.heap.size, 2, none⟩) (Nat.le_refl _) _).setHigh (p := ⟨w.heap.size, 3, none⟩) (Nat.le_refl _) _).setHigh (p := ⟨w.heap.size, 4, none⟩) (Nat.le_refl _) _)
theorem ins_index {w0 w : World} {v : Value} {l : List Int} {g a : Nat} {e : Int} (hr : Rd w0 v l g w a e) (op e1 : Int) (a1 : Nat) (x : Int) (a3 : Nat) (e3 : Int)
    (h1 : a1 ≤ l.length)
    (hB : ∀ W, Rd w0 v l g W a e → Calls Tryd.prog 48 #[.pointer (some ⟨g, 0, none⟩)] W (Turn v g (.int .i64 op) a1 e1 W))
    (hK : ∀ W, Calls Tryd.prog 22 #[.int .i64 op] W fun en w' => en = .returned (.int .i64 3) ∧ Below W.heap.size W w')
    (hU3 : ∀ W, Rd w0 v l g W a1 e1 → Calls Tryd.prog 50 #[.pointer (some ⟨g, 0, none⟩)] W (Turn v g (.int .i64 x) a3 e3 W))
    (hl3 : a3 ≤ l.length)
    : Calls Tryd.prog 25 #[.pointer (some ⟨g, 0, none⟩)] w (InTold v g op (x) (0) (0) [] a3 e3 w) := by
  have HR := Lib.hid hr
  have HG : Hid (w.heap.size ≠ g) := by have := hr.rd.lt; show _ ≠ _; omega
  have HH1 := Lib.hid h1
  have HB0 := Lib.hid hB
  have HK := Lib.hid hK
  have HU3 := Lib.hid hU3
  clear hr h1 hB hK hU3
  go_enter Tryd.func25, Tryd.ntmps25
  go_wp2_with fail
  have HA := Lib.hid ((Below.refl w.heap.size w).alloc (Nat.le_refl _) (.cells #[.int .i64 0, .int .i64 0, .int .i64 0, .int .u64 0, .slice none 0 0] 26))
  refine (HB0.out _ (HR.out.keep HA.out)).mono ?_
  rintro en w1 ⟨rfl, hr1, hb1⟩
  have HR := Lib.hid ((HR.out.keep HA.out).turn hr1 hb1 HH1.out)
  have HO := Lib.hid ((InAt.at_ w w.heap.size 0 0 0 0 (.slice none 0 0) 26 rfl).but hb1 HG.out)
  have HB := Lib.hid (((But.refl g w).allocHigh (.cells #[.int .i64 0, .int .i64 0, .int .i64 0, .int .u64 0, .slice none 0 0] 26)).trans hb1)
  clear hr1 hb1
  go_wp2_with fail
  have HA1 := Lib.hid ((Below.refl w1.heap.size w1).alloc (Nat.le_refl _) (.cells #[.int .i64 op, .int .i64 0, .int .i64 0, .int .u64 0, .slice none 0 0] 26))
  refine (HK.out _).mono ?_
  rintro en w2 ⟨rfl, hb2⟩
  have HC := Lib.hid (HA1.out.trans (hb2.mono HA1.out.size))
  have HI := Lib.hid ((InAt.at_ w1 w1.heap.size op 0 0 0 (.slice none 0 0) 26 rfl).keep hb2)
  have HHG : Hid (w1.heap.size ≠ g) := by have := HR.out.rd.lt; show _ ≠ _; omega
  have HW0 : Hid (w0.heap.size ≤ w1.heap.size) := HR.out.below.size
  have HWW : Hid (w.heap.size ≤ w1.heap.size) := HB.out.size
  have HHO : Hid (w1.heap.size ≠ w.heap.size) := by have := HO.out.lt; show _ ≠ _; omega
  have HR := Lib.hid (HR.out.keep HC.out)
  have HO := Lib.hid (HO.out.keep HC.out)
  have HB := Lib.hid (HB.out.trans (But.of_below HC.out))
  clear hb2
  obtain ⟨i0, ic0, ic1, ic2, ic3, ic4, if0, if1, if2, if3, if4⟩ := HI.out
  go_wp2_with fail
  refine (fail_no 3 HR.out).mono ?_
  rintro en w3 ⟨rfl, hr, hb⟩
  have HR := Lib.hid (HR.out.turn hr hb HR.out.at_le)
  have HI := Lib.hid (HI.out.but hb HHG.out)
  have HO := Lib.hid (HO.out.but hb HG.out)
  have HB := Lib.hid (HB.out.trans hb)
  clear hr hb
  clear i0 ic0 ic1 ic2 ic3 ic4 if0 if1 if2 if3 if4
  obtain ⟨i0, ic0, ic1, ic2, ic3, ic4, if0, if1, if2, if3, if4⟩ := HI.out
  go_wp2_with fail
  refine (HU3.out _ HR.out).mono ?_
  rintro en w4 ⟨rfl, hr, hb⟩
  have HR := Lib.hid (HR.out.turn hr hb hl3)
  have HI := Lib.hid (HI.out.but hb HHG.out)
  have HO := Lib.hid (HO.out.but hb HG.out)
  have HB := Lib.hid (HB.out.trans hb)
  clear hr hb
  clear i0 ic0 ic1 ic2 ic3 ic4 if0 if1 if2 if3 if4
  obtain ⟨i0, ic0, ic1, ic2, ic3, ic4, if0, if1, if2, if3, if4⟩ := HI.out
  obtain ⟨o0, oc0, oc1, oc2, oc3, oc4, of0, of1, of2, of3, of4⟩ := HO.out
  have hn1 : w1.heap.size ≠ w.heap.size := HHO.out
  have hn2 : w.heap.size ≠ w1.heap.size := fun e => HHO.out e.symm
  go_wp2_with fail
  have HR := Lib.hid (HR.out.far (p := ⟨w1.heap.size, 1, none⟩) HHG.out HW0.out (.int .i64 (x)))
  have HI := Lib.hid (HI.out.setA (x))
  have HO := Lib.hid (HO.out.far (p := ⟨w1.heap.size, 1, none⟩) HHO.out (.int .i64 (x)))
  have HB := Lib.hid (HB.out.setHigh (p := ⟨w1.heap.size, 1, none⟩) HWW.out (.int .i64 (x)))
  refine bodyPost_ret (v := .agg #[.int .i64 op, .int .i64 (x), .int .i64 (0), .int .u64 (0), .slice none 0 0]) (by simp [results, Tryd.results25, go_sem, oc0, oc1, oc2, oc3, oc4]) rfl ⟨_, rfl, ownI_nil _ _, ?_, ?_⟩
  · exact (((((HR.out.rd.far (p := ⟨w.heap.size, 0, none⟩) HG.out _).far (p := ⟨w.heap.size, 1, none⟩) HG.out _).far (p := ⟨w.heap.size, 2, none⟩) HG.out _).far (p := ⟨w.heap.size, 3, none⟩) HG.out _).far (p := ⟨w.heap.size, 4, none⟩) HG.out _)
  · exact (((((HB.out.setHigh (p := ⟨w.heap.size, 0, none⟩) (Nat.le_refl _) _).setHigh (p := ⟨w.heap.size, 1, none⟩) (Nat.le_refl _) _).setHigh (p := ⟨w.heap.size, 2, none⟩) (Nat.le_refl _) _).setHigh (p := ⟨w.heap.size, 3, none⟩) (Nat.le_refl _) _).setHigh (p := ⟨w.heap.size, 4, none⟩) (Nat.le_refl _) _)
end Go.Proofs.YtmjimijolfjhmaaDoor.Ins
