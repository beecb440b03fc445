/- InsPSaneA, InsPSaneB, InsSaneA, InsSane. -/
import Derived.Test.YtlappkflnlbfcaaGreatDoorPkInsPSame
section
/- The program's Sane, kind by kind: A. -/
namespace Go.Proofs.YtlappkflnlbfcaaGreatDoor.Ins
open Go.RowKit Ints Typ
set_option maxRecDepth 100000
set_option maxHeartbeats 2000000
set_option linter.unusedVariables false

theorem psane_0 (op A B K : Int) (P : Option Addr) (n c : Nat) (w : World) (s : Bool)
    (hK : ∀ W, Below w.heap.size w W → Calls Tryz.prog 61 #[.int .i64 op] W fun en w' => en = .returned (.int .i64 0) ∧ Below W.heap.size W w') :
    Calls Tryz.prog 58 #[.agg #[.int .i64 op, .int .i64 A, .int .i64 B, .int .u64 K, .slice P n c]] w fun en w' => en = .returned (.bool (false)) ∧ Below w.heap.size w w' := by
  have HK := Lib.hid hK
  have HW := Lib.hid ((Below.refl w.heap.size w).alloc (Nat.le_refl _) (.cells #[.int .i64 op, .int .i64 A, .int .i64 B, .int .u64 K, .slice P n c] 33))
  have HI := Lib.hid (InAt.at_ w w.heap.size op A B K (.slice P n c) 33 rfl)
  clear hK
  obtain ⟨i0, ic0, ic1, ic2, ic3, ic4, if0, if1, if2, if3, if4⟩ := HI.out
  go_enter Tryz.func58, Tryz.ntmps58
  go_wp2_with fail
  refine (HK.out _ HW.out).mono ?_
  rintro en w2 ⟨rfl, hb⟩
  have HI := Lib.hid (HI.out.keep hb)
  have HW := Lib.hid (HW.out.trans (hb.mono HW.out.size))
  clear hb i0 ic0 ic1 ic2 ic3 ic4 if0 if1 if2 if3 if4
  obtain ⟨i0, ic0, ic1, ic2, ic3, ic4, if0, if1, if2, if3, if4⟩ := HI.out
  go_wp2_with fail
  refine bodyPost_ret (v := .bool false) (by simp [results, Tryz.results58, go_sem]) rfl ⟨rfl, HW.out⟩
theorem psane_1 (op A B K : Int) (P : Option Addr) (n c : Nat) (w : World) (s : Bool)
    (hK : ∀ W, Below w.heap.size w W → Calls Tryz.prog 61 #[.int .i64 op] W fun en w' => en = .returned (.int .i64 1) ∧ Below W.heap.size W w')
    (hS : ∀ W, Below w.heap.size w W → Calls Tryz.prog 89 #[.agg #[.int .i64 op, .int .i64 A, .int .i64 B, .int .u64 K, .slice P n c], .agg #[.int .i64 op, .int .i64 0, .int .i64 0, .int .u64 0, .slice none 0 0]] W fun en w' => en = .returned (.bool s) ∧ Below W.heap.size W w') :
    Calls Tryz.prog 58 #[.agg #[.int .i64 op, .int .i64 A, .int .i64 B, .int .u64 K, .slice P n c]] w fun en w' => en = .returned (.bool (s)) ∧ Below w.heap.size w w' := by
  have HK := Lib.hid hK
  have HS := Lib.hid hS
  have HW := Lib.hid ((Below.refl w.heap.size w).alloc (Nat.le_refl _) (.cells #[.int .i64 op, .int .i64 A, .int .i64 B, .int .u64 K, .slice P n c] 33))
  have HI := Lib.hid (InAt.at_ w w.heap.size op A B K (.slice P n c) 33 rfl)
  clear hK hS
  obtain ⟨i0, ic0, ic1, ic2, ic3, ic4, if0, if1, if2, if3, if4⟩ := HI.out
  go_enter Tryz.func58, Tryz.ntmps58
  go_wp2_with fail
  refine (HK.out _ HW.out).mono ?_
  rintro en w2 ⟨rfl, hb⟩
  have HI := Lib.hid (HI.out.keep hb)
  have HW := Lib.hid (HW.out.trans (hb.mono HW.out.size))
  clear hb i0 ic0 ic1 ic2 ic3 ic4 if0 if1 if2 if3 if4
  obtain ⟨i0, ic0, ic1, ic2, ic3, ic4, if0, if1, if2, if3, if4⟩ := HI.out
  go_wp2_with fail
  refine (HS.out _ HW.out).mono ?_
  rintro en w3 ⟨rfl, hb⟩
  have HI := Lib.hid (HI.out.keep hb)
  have HW := Lib.hid (HW.out.trans (hb.mono HW.out.size))
  clear hb i0 ic0 ic1 ic2 ic3 ic4 if0 if1 if2 if3 if4
  obtain ⟨i0, ic0, ic1, ic2, ic3, ic4, if0, if1, if2, if3, if4⟩ := HI.out
  go_wp2_with fail
  refine bodyPost_ret (v := .bool s) (by simp [results, Tryz.results58, go_sem]) rfl ⟨rfl, HW.out⟩
theorem psane_7 (op A B K : Int) (P : Option Addr) (n c : Nat) (w : World) (s : Bool)
    (hK : ∀ W, Below w.heap.size w W → Calls Tryz.prog 61 #[.int .i64 op] W fun en w' => en = .returned (.int .i64 7) ∧ Below W.heap.size W w')
    (hS : ∀ W, Below w.heap.size w W → Calls Tryz.prog 89 #[.agg #[.int .i64 op, .int .i64 A, .int .i64 B, .int .u64 K, .slice P n c], .agg #[.int .i64 op, .int .i64 0, .int .i64 0, .int .u64 0, .slice none 0 0]] W fun en w' => en = .returned (.bool s) ∧ Below W.heap.size W w') :
    Calls Tryz.prog 58 #[.agg #[.int .i64 op, .int .i64 A, .int .i64 B, .int .u64 K, .slice P n c]] w fun en w' => en = .returned (.bool (s)) ∧ Below w.heap.size w w' := by
  have HK := Lib.hid hK
  have HS := Lib.hid hS
  have HW := Lib.hid ((Below.refl w.heap.size w).alloc (Nat.le_refl _) (.cells #[.int .i64 op, .int .i64 A, .int .i64 B, .int .u64 K, .slice P n c] 33))
  have HI := Lib.hid (InAt.at_ w w.heap.size op A B K (.slice P n c) 33 rfl)
  clear hK hS
  obtain ⟨i0, ic0, ic1, ic2, ic3, ic4, if0, if1, if2, if3, if4⟩ := HI.out
  go_enter Tryz.func58, Tryz.ntmps58
  go_wp2_with fail
  refine (HK.out _ HW.out).mono ?_
  rintro en w2 ⟨rfl, hb⟩
  have HI := Lib.hid (HI.out.keep hb)
  have HW := Lib.hid (HW.out.trans (hb.mono HW.out.size))
  clear hb i0 ic0 ic1 ic2 ic3 ic4 if0 if1 if2 if3 if4
  obtain ⟨i0, ic0, ic1, ic2, ic3, ic4, if0, if1, if2, if3, if4⟩ := HI.out
  go_wp2_with fail
  refine (HS.out _ HW.out).mono ?_
  rintro en w3 ⟨rfl, hb⟩
  have HI := Lib.hid (HI.out.keep hb)
  have HW := Lib.hid (HW.out.trans (hb.mono HW.out.size))
  clear hb i0 ic0 ic1 ic2 ic3 ic4 if0 if1 if2 if3 if4
  obtain ⟨i0, ic0, ic1, ic2, ic3, ic4, if0, if1, if2, if3, if4⟩ := HI.out
  go_wp2_with fail
  refine bodyPost_ret (v := .bool s) (by simp [results, Tryz.results58, go_sem]) rfl ⟨rfl, HW.out⟩
theorem psane_2 (op A B K : Int) (P : Option Addr) (n c : Nat) (w : World) (b1 s : Bool)
    (hK : ∀ W, Below w.heap.size w W → Calls Tryz.prog 61 #[.int .i64 op] W fun en w' => en = .returned (.int .i64 2) ∧ Below W.heap.size W w')
    (hb1 : ∀ W, Below w.heap.size w W → Calls Tryz.prog 88 #[.int .i64 A] W fun en w' => en = .returned (.bool b1) ∧ Below W.heap.size W w')
    (hS : ∀ W, Below w.heap.size w W → Calls Tryz.prog 89 #[.agg #[.int .i64 op, .int .i64 A, .int .i64 B, .int .u64 K, .slice P n c], .agg #[.int .i64 op, .int .i64 A, .int .i64 0, .int .u64 0, .slice none 0 0]] W fun en w' => en = .returned (.bool s) ∧ Below W.heap.size W w') :
    Calls Tryz.prog 58 #[.agg #[.int .i64 op, .int .i64 A, .int .i64 B, .int .u64 K, .slice P n c]] w fun en w' => en = .returned (.bool (b1 && s)) ∧ Below w.heap.size w w' := by
  cases b1 with
  | false =>
    have HK := Lib.hid hK
    have Hb1 := Lib.hid hb1
    have HS := Lib.hid hS
    have HW := Lib.hid ((Below.refl w.heap.size w).alloc (Nat.le_refl _) (.cells #[.int .i64 op, .int .i64 A, .int .i64 B, .int .u64 K, .slice P n c] 33))
    have HI := Lib.hid (InAt.at_ w w.heap.size op A B K (.slice P n c) 33 rfl)
    clear hK hb1 hS
    obtain ⟨i0, ic0, ic1, ic2, ic3, ic4, if0, if1, if2, if3, if4⟩ := HI.out
    go_enter Tryz.func58, Tryz.ntmps58
    go_wp2_with fail
    refine (HK.out _ HW.out).mono ?_
    rintro en w2 ⟨rfl, hb⟩
    have HI := Lib.hid (HI.out.keep hb)
    have HW := Lib.hid (HW.out.trans (hb.mono HW.out.size))
    clear hb i0 ic0 ic1 ic2 ic3 ic4 if0 if1 if2 if3 if4
    obtain ⟨i0, ic0, ic1, ic2, ic3, ic4, if0, if1, if2, if3, if4⟩ := HI.out
    go_wp2_with fail
    refine (Hb1.out _ HW.out).mono ?_
    rintro en w3 ⟨rfl, hb⟩
    have HI := Lib.hid (HI.out.keep hb)
    have HW := Lib.hid (HW.out.trans (hb.mono HW.out.size))
    clear hb i0 ic0 ic1 ic2 ic3 ic4 if0 if1 if2 if3 if4
    obtain ⟨i0, ic0, ic1, ic2, ic3, ic4, if0, if1, if2, if3, if4⟩ := HI.out
    go_wp2_with fail
    refine bodyPost_ret (v := .bool false) (by simp [results, Tryz.results58, go_sem]) rfl ⟨by simp, HW.out⟩
  | true =>
    have HK := Lib.hid hK
    have Hb1 := Lib.hid hb1
    have HS := Lib.hid hS
    have HW := Lib.hid ((Below.refl w.heap.size w).alloc (Nat.le_refl _) (.cells #[.int .i64 op, .int .i64 A, .int .i64 B, .int .u64 K, .slice P n c] 33))
    have HI := Lib.hid (InAt.at_ w w.heap.size op A B K (.slice P n c) 33 rfl)
    clear hK hb1 hS
    obtain ⟨i0, ic0, ic1, ic2, ic3, ic4, if0, if1, if2, if3, if4⟩ := HI.out
    go_enter Tryz.func58, Tryz.ntmps58
    go_wp2_with fail
    refine (HK.out _ HW.out).mono ?_
    rintro en w2 ⟨rfl, hb⟩
    have HI := Lib.hid (HI.out.keep hb)
    have HW := Lib.hid (HW.out.trans (hb.mono HW.out.size))
    clear hb i0 ic0 ic1 ic2 ic3 ic4 if0 if1 if2 if3 if4
    obtain ⟨i0, ic0, ic1, ic2, ic3, ic4, if0, if1, if2, if3, if4⟩ := HI.out
    go_wp2_with fail
    refine (Hb1.out _ HW.out).mono ?_
    rintro en w3 ⟨rfl, hb⟩
    have HI := Lib.hid (HI.out.keep hb)
    have HW := Lib.hid (HW.out.trans (hb.mono HW.out.size))
    clear hb i0 ic0 ic1 ic2 ic3 ic4 if0 if1 if2 if3 if4
    obtain ⟨i0, ic0, ic1, ic2, ic3, ic4, if0, if1, if2, if3, if4⟩ := HI.out
    go_wp2_with fail
    refine (HS.out _ HW.out).mono ?_
    rintro en w4 ⟨rfl, hb⟩
    have HI := Lib.hid (HI.out.keep hb)
    have HW := Lib.hid (HW.out.trans (hb.mono HW.out.size))
    clear hb i0 ic0 ic1 ic2 ic3 ic4 if0 if1 if2 if3 if4
    obtain ⟨i0, ic0, ic1, ic2, ic3, ic4, if0, if1, if2, if3, if4⟩ := HI.out
    go_wp2_with fail
    refine bodyPost_ret (v := .bool s) (by simp [results, Tryz.results58, go_sem]) rfl ⟨by simp, HW.out⟩
theorem psane_3 (op A B K : Int) (P : Option Addr) (n c : Nat) (w : World) (b1 s : Bool)
    (hK : ∀ W, Below w.heap.size w W → Calls Tryz.prog 61 #[.int .i64 op] W fun en w' => en = .returned (.int .i64 3) ∧ Below W.heap.size W w')
    (hb1 : ∀ W, Below w.heap.size w W → Calls Tryz.prog 90 #[.int .i64 A] W fun en w' => en = .returned (.bool b1) ∧ Below W.heap.size W w')
    (hS : ∀ W, Below w.heap.size w W → Calls Tryz.prog 89 #[.agg #[.int .i64 op, .int .i64 A, .int .i64 B, .int .u64 K, .slice P n c], .agg #[.int .i64 op, .int .i64 A, .int .i64 0, .int .u64 0, .slice none 0 0]] W fun en w' => en = .returned (.bool s) ∧ Below W.heap.size W w') :
    Calls Tryz.prog 58 #[.agg #[.int .i64 op, .int .i64 A, .int .i64 B, .int .u64 K, .slice P n c]] w fun en w' => en = .returned (.bool (b1 && s)) ∧ Below w.heap.size w w' := by
  cases b1 with
  | false =>
    have HK := Lib.hid hK
    have Hb1 := Lib.hid hb1
    have HS := Lib.hid hS
    have HW := Lib.hid ((Below.refl w.heap.size w).alloc (Nat.le_refl _) (.cells #[.int .i64 op, .int .i64 A, .int .i64 B, .int .u64 K, .slice P n c] 33))
    have HI := Lib.hid (InAt.at_ w w.heap.size op A B K (.slice P n c) 33 rfl)
    clear hK hb1 hS
    obtain ⟨i0, ic0, ic1, ic2, ic3, ic4, if0, if1, if2, if3, if4⟩ := HI.out
    go_enter Tryz.func58, Tryz.ntmps58
    go_wp2_with fail
    refine (HK.out _ HW.out).mono ?_
    rintro en w2 ⟨rfl, hb⟩
    have HI := Lib.hid (HI.out.keep hb)
    have HW := Lib.hid (HW.out.trans (hb.mono HW.out.size))
    clear hb i0 ic0 ic1 ic2 ic3 ic4 if0 if1 if2 if3 if4
    obtain ⟨i0, ic0, ic1, ic2, ic3, ic4, if0, if1, if2, if3, if4⟩ := HI.out
    go_wp2_with fail
    refine (Hb1.out _ HW.out).mono ?_
    rintro en w3 ⟨rfl, hb⟩
    have HI := Lib.hid (HI.out.keep hb)
    have HW := Lib.hid (HW.out.trans (hb.mono HW.out.size))
    clear hb i0 ic0 ic1 ic2 ic3 ic4 if0 if1 if2 if3 if4
    obtain ⟨i0, ic0, ic1, ic2, ic3, ic4, if0, if1, if2, if3, if4⟩ := HI.out
    go_wp2_with fail
    refine bodyPost_ret (v := .bool false) (by simp [results, Tryz.results58, go_sem]) rfl ⟨by simp, HW.out⟩
  | true =>
    have HK := Lib.hid hK
    have Hb1 := Lib.hid hb1
    have HS := Lib.hid hS
    have HW := Lib.hid ((Below.refl w.heap.size w).alloc (Nat.le_refl _) (.cells #[.int .i64 op, .int .i64 A, .int .i64 B, .int .u64 K, .slice P n c] 33))
    have HI := Lib.hid (InAt.at_ w w.heap.size op A B K (.slice P n c) 33 rfl)
    clear hK hb1 hS
    obtain ⟨i0, ic0, ic1, ic2, ic3, ic4, if0, if1, if2, if3, if4⟩ := HI.out
    go_enter Tryz.func58, Tryz.ntmps58
    go_wp2_with fail
    refine (HK.out _ HW.out).mono ?_
    rintro en w2 ⟨rfl, hb⟩
    have HI := Lib.hid (HI.out.keep hb)
    have HW := Lib.hid (HW.out.trans (hb.mono HW.out.size))
    clear hb i0 ic0 ic1 ic2 ic3 ic4 if0 if1 if2 if3 if4
    obtain ⟨i0, ic0, ic1, ic2, ic3, ic4, if0, if1, if2, if3, if4⟩ := HI.out
    go_wp2_with fail
    refine (Hb1.out _ HW.out).mono ?_
    rintro en w3 ⟨rfl, hb⟩
    have HI := Lib.hid (HI.out.keep hb)
    have HW := Lib.hid (HW.out.trans (hb.mono HW.out.size))
    clear hb i0 ic0 ic1 ic2 ic3 ic4 if0 if1 if2 if3 if4
    obtain ⟨i0, ic0, ic1, ic2, ic3, ic4, if0, if1, if2, if3, if4⟩ := HI.out
    go_wp2_with fail
    refine (HS.out _ HW.out).mono ?_
    rintro en w4 ⟨rfl, hb⟩
    have HI := Lib.hid (HI.out.keep hb)
    have HW := Lib.hid (HW.out.trans (hb.mono HW.out.size))
    clear hb i0 ic0 ic1 ic2 ic3 ic4 if0 if1 if2 if3 if4
    obtain ⟨i0, ic0, ic1, ic2, ic3, ic4, if0, if1, if2, if3, if4⟩ := HI.out
    go_wp2_with fail
    refine bodyPost_ret (v := .bool s) (by simp [results, Tryz.results58, go_sem]) rfl ⟨by simp, HW.out⟩
theorem psane_5 (op A B K : Int) (P : Option Addr) (n c : Nat) (w : World) (b1 s : Bool)
    (hK : ∀ W, Below w.heap.size w W → Calls Tryz.prog 61 #[.int .i64 op] W fun en w' => en = .returned (.int .i64 5) ∧ Below W.heap.size W w')
    (hb1 : ∀ W, Below w.heap.size w W → Calls Tryz.prog 90 #[.int .i64 A] W fun en w' => en = .returned (.bool b1) ∧ Below W.heap.size W w')
    (hS : ∀ W, Below w.heap.size w W → Calls Tryz.prog 89 #[.agg #[.int .i64 op, .int .i64 A, .int .i64 B, .int .u64 K, .slice P n c], .agg #[.int .i64 op, .int .i64 A, .int .i64 0, .int .u64 0, .slice none 0 0]] W fun en w' => en = .returned (.bool s) ∧ Below W.heap.size W w') :
    Calls Tryz.prog 58 #[.agg #[.int .i64 op, .int .i64 A, .int .i64 B, .int .u64 K, .slice P n c]] w fun en w' => en = .returned (.bool (b1 && s)) ∧ Below w.heap.size w w' := by
  cases b1 with
  | false =>
    have HK := Lib.hid hK
    have Hb1 := Lib.hid hb1
    have HS := Lib.hid hS
    have HW := Lib.hid ((Below.refl w.heap.size w).alloc (Nat.le_refl _) (.cells #[.int .i64 op, .int .i64 A, .int .i64 B, .int .u64 K, .slice P n c] 33))
    have HI := Lib.hid (InAt.at_ w w.heap.size op A B K (.slice P n c) 33 rfl)
    clear hK hb1 hS
    obtain ⟨i0, ic0, ic1, ic2, ic3, ic4, if0, if1, if2, if3, if4⟩ := HI.out
    go_enter Tryz.func58, Tryz.ntmps58
    go_wp2_with fail
    refine (HK.out _ HW.out).mono ?_
    rintro en w2 ⟨rfl, hb⟩
    have HI := Lib.hid (HI.out.keep hb)
    have HW := Lib.hid (HW.out.trans (hb.mono HW.out.size))
    clear hb i0 ic0 ic1 ic2 ic3 ic4 if0 if1 if2 if3 if4
    obtain ⟨i0, ic0, ic1, ic2, ic3, ic4, if0, if1, if2, if3, if4⟩ := HI.out
    go_wp2_with fail
    refine (Hb1.out _ HW.out).mono ?_
    rintro en w3 ⟨rfl, hb⟩
    have HI := Lib.hid (HI.out.keep hb)
    have HW := Lib.hid (HW.out.trans (hb.mono HW.out.size))
    clear hb i0 ic0 ic1 ic2 ic3 ic4 if0 if1 if2 if3 if4
    obtain ⟨i0, ic0, ic1, ic2, ic3, ic4, if0, if1, if2, if3, if4⟩ := HI.out
    go_wp2_with fail
    refine bodyPost_ret (v := .bool false) (by simp [results, Tryz.results58, go_sem]) rfl ⟨by simp, HW.out⟩
  | true =>
    have HK := Lib.hid hK
    have Hb1 := Lib.hid hb1
    have HS := Lib.hid hS
    have HW := Lib.hid ((Below.refl w.heap.size w).alloc (Nat.le_refl _) (.cells #[.int .i64 op, .int .i64 A, .int .i64 B, .int .u64 K, .slice P n c] 33))
    have HI := Lib.hid (InAt.at_ w w.heap.size op A B K (.slice P n c) 33 rfl)
    clear hK hb1 hS
    obtain ⟨i0, ic0, ic1, ic2, ic3, ic4, if0, if1, if2, if3, if4⟩ := HI.out
    go_enter Tryz.func58, Tryz.ntmps58
    go_wp2_with fail
    refine (HK.out _ HW.out).mono ?_
    rintro en w2 ⟨rfl, hb⟩
    have HI := Lib.hid (HI.out.keep hb)
    have HW := Lib.hid (HW.out.trans (hb.mono HW.out.size))
    clear hb i0 ic0 ic1 ic2 ic3 ic4 if0 if1 if2 if3 if4
    obtain ⟨i0, ic0, ic1, ic2, ic3, ic4, if0, if1, if2, if3, if4⟩ := HI.out
    go_wp2_with fail
    refine (Hb1.out _ HW.out).mono ?_
    rintro en w3 ⟨rfl, hb⟩
    have HI := Lib.hid (HI.out.keep hb)
    have HW := Lib.hid (HW.out.trans (hb.mono HW.out.size))
    clear hb i0 ic0 ic1 ic2 ic3 ic4 if0 if1 if2 if3 if4
    obtain ⟨i0, ic0, ic1, ic2, ic3, ic4, if0, if1, if2, if3, if4⟩ := HI.out
    go_wp2_with fail
    refine (HS.out _ HW.out).mono ?_
    rintro en w4 ⟨rfl, hb⟩
    have HI := Lib.hid (HI.out.keep hb)
    have HW := Lib.hid (HW.out.trans (hb.mono HW.out.size))
    clear hb i0 ic0 ic1 ic2 ic3 ic4 if0 if1 if2 if3 if4
    obtain ⟨i0, ic0, ic1, ic2, ic3, ic4, if0, if1, if2, if3, if4⟩ := HI.out
    go_wp2_with fail
    refine bodyPost_ret (v := .bool s) (by simp [results, Tryz.results58, go_sem]) rfl ⟨by simp, HW.out⟩
end Go.Proofs.YtlappkflnlbfcaaGreatDoor.Ins
end

section
/- The program's Sane, kind by kind: B. -/
namespace Go.Proofs.YtlappkflnlbfcaaGreatDoor.Ins
open Go.RowKit Ints Typ
set_option maxRecDepth 100000
set_option maxHeartbeats 2000000
set_option linter.unusedVariables false

theorem psane_4 (op A B K : Int) (P : Option Addr) (n c : Nat) (w : World) (b1 b2 s : Bool)
    (hK : ∀ W, Below w.heap.size w W → Calls Tryz.prog 61 #[.int .i64 op] W fun en w' => en = .returned (.int .i64 4) ∧ Below W.heap.size W w')
    (hb1 : ∀ W, Below w.heap.size w W → Calls Tryz.prog 91 #[.slice P n c] W fun en w' => en = .returned (.bool b1) ∧ Below W.heap.size W w')
    (hb2 : ∀ W, Below w.heap.size w W → Calls Tryz.prog 90 #[.int .i64 A] W fun en w' => en = .returned (.bool b2) ∧ Below W.heap.size W w')
    (hS : ∀ W, Below w.heap.size w W → Calls Tryz.prog 89 #[.agg #[.int .i64 op, .int .i64 A, .int .i64 B, .int .u64 K, .slice P n c], .agg #[.int .i64 op, .int .i64 A, .int .i64 0, .int .u64 0, .slice P n c]] W fun en w' => en = .returned (.bool s) ∧ Below W.heap.size W w') :
    Calls Tryz.prog 58 #[.agg #[.int .i64 op, .int .i64 A, .int .i64 B, .int .u64 K, .slice P n c]] w fun en w' => en = .returned (.bool (b1 && b2 && s)) ∧ Below w.heap.size w w' := by
  cases b1 with
  | false =>
    have HK := Lib.hid hK
    have Hb1 := Lib.hid hb1
    have Hb2 := Lib.hid hb2
    have HS := Lib.hid hS
    have HW := Lib.hid ((Below.refl w.heap.size w).alloc (Nat.le_refl _) (.cells #[.int .i64 op, .int .i64 A, .int .i64 B, .int .u64 K, .slice P n c] 33))
    have HI := Lib.hid (InAt.at_ w w.heap.size op A B K (.slice P n c) 33 rfl)
    clear hK hb1 hb2 hS
    obtain ⟨i0, ic0, ic1, ic2, ic3, ic4, if0, if1, if2, if3, if4⟩ := HI.out
    go_enter Tryz.func58, Tryz.ntmps58
    go_wp2_with fail
    refine (HK.out _ HW.out).mono ?_
    rintro en w2 ⟨rfl, hb⟩
    have HI := Lib.hid (HI.out.keep hb)
    have HW := Lib.hid (HW.out.trans (hb.mono HW.out.size))
    clear hb i0 ic0 ic1 ic2 ic3 ic4 if0 if1 if2 if3 if4
    obtain ⟨i0, ic0, ic1, ic2, ic3, ic4, if0, if1, if2, if3, if4⟩ := HI.out
    go_wp2_with fail
    refine (Hb1.out _ HW.out).mono ?_
    rintro en w3 ⟨rfl, hb⟩
    have HI := Lib.hid (HI.out.keep hb)
    have HW := Lib.hid (HW.out.trans (hb.mono HW.out.size))
    clear hb i0 ic0 ic1 ic2 ic3 ic4 if0 if1 if2 if3 if4
    obtain ⟨i0, ic0, ic1, ic2, ic3, ic4, if0, if1, if2, if3, if4⟩ := HI.out
    go_wp2_with fail
    refine bodyPost_ret (v := .bool false) (by simp [results, Tryz.results58, go_sem]) rfl ⟨by simp, HW.out⟩
  | true =>
    cases b2 with
    | false =>
      have HK := Lib.hid hK
      have Hb1 := Lib.hid hb1
      have Hb2 := Lib.hid hb2
      have HS := Lib.hid hS
      have HW := Lib.hid ((Below.refl w.heap.size w).alloc (Nat.le_refl _) (.cells #[.int .i64 op, .int .i64 A, .int .i64 B, .int .u64 K, .slice P n c] 33))
      have HI := Lib.hid (InAt.at_ w w.heap.size op A B K (.slice P n c) 33 rfl)
      clear hK hb1 hb2 hS
      obtain ⟨i0, ic0, ic1, ic2, ic3, ic4, if0, if1, if2, if3, if4⟩ := HI.out
      go_enter Tryz.func58, Tryz.ntmps58
      go_wp2_with fail
      refine (HK.out _ HW.out).mono ?_
      rintro en w2 ⟨rfl, hb⟩
      have HI := Lib.hid (HI.out.keep hb)
      have HW := Lib.hid (HW.out.trans (hb.mono HW.out.size))
      clear hb i0 ic0 ic1 ic2 ic3 ic4 if0 if1 if2 if3 if4
      obtain ⟨i0, ic0, ic1, ic2, ic3, ic4, if0, if1, if2, if3, if4⟩ := HI.out
      go_wp2_with fail
      refine (Hb1.out _ HW.out).mono ?_
      rintro en w3 ⟨rfl, hb⟩
      have HI := Lib.hid (HI.out.keep hb)
      have HW := Lib.hid (HW.out.trans (hb.mono HW.out.size))
      clear hb i0 ic0 ic1 ic2 ic3 ic4 if0 if1 if2 if3 if4
      obtain ⟨i0, ic0, ic1, ic2, ic3, ic4, if0, if1, if2, if3, if4⟩ := HI.out
      go_wp2_with fail
      refine (Hb2.out _ HW.out).mono ?_
      rintro en w4 ⟨rfl, hb⟩
      have HI := Lib.hid (HI.out.keep hb)
      have HW := Lib.hid (HW.out.trans (hb.mono HW.out.size))
      clear hb i0 ic0 ic1 ic2 ic3 ic4 if0 if1 if2 if3 if4
      obtain ⟨i0, ic0, ic1, ic2, ic3, ic4, if0, if1, if2, if3, if4⟩ := HI.out
      go_wp2_with fail
      refine bodyPost_ret (v := .bool false) (by simp [results, Tryz.results58, go_sem]) rfl ⟨by simp, HW.out⟩
    | true =>
      have HK := Lib.hid hK
      have Hb1 := Lib.hid hb1
      have Hb2 := Lib.hid hb2
      have HS := Lib.hid hS
      have HW := Lib.hid ((Below.refl w.heap.size w).alloc (Nat.le_refl _) (.cells #[.int .i64 op, .int .i64 A, .int .i64 B, .int .u64 K, .slice P n c] 33))
      have HI := Lib.hid (InAt.at_ w w.heap.size op A B K (.slice P n c) 33 rfl)
      clear hK hb1 hb2 hS
      obtain ⟨i0, ic0, ic1, ic2, ic3, ic4, if0, if1, if2, if3, if4⟩ := HI.out
      go_enter Tryz.func58, Tryz.ntmps58
      go_wp2_with fail
      refine (HK.out _ HW.out).mono ?_
      rintro en w2 ⟨rfl, hb⟩
      have HI := Lib.hid (HI.out.keep hb)
      have HW := Lib.hid (HW.out.trans (hb.mono HW.out.size))
      clear hb i0 ic0 ic1 ic2 ic3 ic4 if0 if1 if2 if3 if4
      obtain ⟨i0, ic0, ic1, ic2, ic3, ic4, if0, if1, if2, if3, if4⟩ := HI.out
      go_wp2_with fail
      refine (Hb1.out _ HW.out).mono ?_
      rintro en w3 ⟨rfl, hb⟩
      have HI := Lib.hid (HI.out.keep hb)
      have HW := Lib.hid (HW.out.trans (hb.mono HW.out.size))
      clear hb i0 ic0 ic1 ic2 ic3 ic4 if0 if1 if2 if3 if4
      obtain ⟨i0, ic0, ic1, ic2, ic3, ic4, if0, if1, if2, if3, if4⟩ := HI.out
      go_wp2_with fail
      refine (Hb2.out _ HW.out).mono ?_
      rintro en w4 ⟨rfl, hb⟩
      have HI := Lib.hid (HI.out.keep hb)
      have HW := Lib.hid (HW.out.trans (hb.mono HW.out.size))
      clear hb i0 ic0 ic1 ic2 ic3 ic4 if0 if1 if2 if3 if4
      obtain ⟨i0, ic0, ic1, ic2, ic3, ic4, if0, if1, if2, if3, if4⟩ := HI.out
      go_wp2_with fail
      refine (HS.out _ HW.out).mono ?_
      rintro en w5 ⟨rfl, hb⟩
      have HI := Lib.hid (HI.out.keep hb)
      have HW := Lib.hid (HW.out.trans (hb.mono HW.out.size))
      clear hb i0 ic0 ic1 ic2 ic3 ic4 if0 if1 if2 if3 if4
      obtain ⟨i0, ic0, ic1, ic2, ic3, ic4, if0, if1, if2, if3, if4⟩ := HI.out
      go_wp2_with fail
      refine bodyPost_ret (v := .bool s) (by simp [results, Tryz.results58, go_sem]) rfl ⟨by simp, HW.out⟩
theorem psane_6 (op A B K : Int) (P : Option Addr) (n c : Nat) (w : World) (b1 b2 s : Bool)
    (hK : ∀ W, Below w.heap.size w W → Calls Tryz.prog 61 #[.int .i64 op] W fun en w' => en = .returned (.int .i64 6) ∧ Below W.heap.size W w')
    (hb1 : ∀ W, Below w.heap.size w W → Calls Tryz.prog 90 #[.int .i64 A] W fun en w' => en = .returned (.bool b1) ∧ Below W.heap.size W w')
    (hb2 : ∀ W, Below w.heap.size w W → Calls Tryz.prog 90 #[.int .i64 B] W fun en w' => en = .returned (.bool b2) ∧ Below W.heap.size W w')
    (hS : ∀ W, Below w.heap.size w W → Calls Tryz.prog 89 #[.agg #[.int .i64 op, .int .i64 A, .int .i64 B, .int .u64 K, .slice P n c], .agg #[.int .i64 op, .int .i64 A, .int .i64 B, .int .u64 0, .slice none 0 0]] W fun en w' => en = .returned (.bool s) ∧ Below W.heap.size W w') :
    Calls Tryz.prog 58 #[.agg #[.int .i64 op, .int .i64 A, .int .i64 B, .int .u64 K, .slice P n c]] w fun en w' => en = .returned (.bool (b1 && b2 && s)) ∧ Below w.heap.size w w' := by
  cases b1 with
  | false =>
    have HK := Lib.hid hK
    have Hb1 := Lib.hid hb1
    have Hb2 := Lib.hid hb2
    have HS := Lib.hid hS
    have HW := Lib.hid ((Below.refl w.heap.size w).alloc (Nat.le_refl _) (.cells #[.int .i64 op, .int .i64 A, .int .i64 B, .int .u64 K, .slice P n c] 33))
    have HI := Lib.hid (InAt.at_ w w.heap.size op A B K (.slice P n c) 33 rfl)
    clear hK hb1 hb2 hS
    obtain ⟨i0, ic0, ic1, ic2, ic3, ic4, if0, if1, if2, if3, if4⟩ := HI.out
    go_enter Tryz.func58, Tryz.ntmps58
    go_wp2_with fail
    refine (HK.out _ HW.out).mono ?_
    rintro en w2 ⟨rfl, hb⟩
    have HI := Lib.hid (HI.out.keep hb)
    have HW := Lib.hid (HW.out.trans (hb.mono HW.out.size))
    clear hb i0 ic0 ic1 ic2 ic3 ic4 if0 if1 if2 if3 if4
    obtain ⟨i0, ic0, ic1, ic2, ic3, ic4, if0, if1, if2, if3, if4⟩ := HI.out
    go_wp2_with fail
    refine (Hb1.out _ HW.out).mono ?_
    rintro en w3 ⟨rfl, hb⟩
    have HI := Lib.hid (HI.out.keep hb)
    have HW := Lib.hid (HW.out.trans (hb.mono HW.out.size))
    clear hb i0 ic0 ic1 ic2 ic3 ic4 if0 if1 if2 if3 if4
    obtain ⟨i0, ic0, ic1, ic2, ic3, ic4, if0, if1, if2, if3, if4⟩ := HI.out
    go_wp2_with fail
    refine bodyPost_ret (v := .bool false) (by simp [results, Tryz.results58, go_sem]) rfl ⟨by simp, HW.out⟩
  | true =>
    cases b2 with
    | false =>
      have HK := Lib.hid hK
      have Hb1 := Lib.hid hb1
      have Hb2 := Lib.hid hb2
      have HS := Lib.hid hS
      have HW := Lib.hid ((Below.refl w.heap.size w).alloc (Nat.le_refl _) (.cells #[.int .i64 op, .int .i64 A, .int .i64 B, .int .u64 K, .slice P n c] 33))
      have HI := Lib.hid (InAt.at_ w w.heap.size op A B K (.slice P n c) 33 rfl)
      clear hK hb1 hb2 hS
      obtain ⟨i0, ic0, ic1, ic2, ic3, ic4, if0, if1, if2, if3, if4⟩ := HI.out
      go_enter Tryz.func58, Tryz.ntmps58
      go_wp2_with fail
      refine (HK.out _ HW.out).mono ?_
      rintro en w2 ⟨rfl, hb⟩
      have HI := Lib.hid (HI.out.keep hb)
      have HW := Lib.hid (HW.out.trans (hb.mono HW.out.size))
      clear hb i0 ic0 ic1 ic2 ic3 ic4 if0 if1 if2 if3 if4
      obtain ⟨i0, ic0, ic1, ic2, ic3, ic4, if0, if1, if2, if3, if4⟩ := HI.out
      go_wp2_with fail
      refine (Hb1.out _ HW.out).mono ?_
      rintro en w3 ⟨rfl, hb⟩
      have HI := Lib.hid (HI.out.keep hb)
      have HW := Lib.hid (HW.out.trans (hb.mono HW.out.size))
      clear hb i0 ic0 ic1 ic2 ic3 ic4 if0 if1 if2 if3 if4
      obtain ⟨i0, ic0, ic1, ic2, ic3, ic4, if0, if1, if2, if3, if4⟩ := HI.out
      go_wp2_with fail
      refine (Hb2.out _ HW.out).mono ?_
      rintro en w4 ⟨rfl, hb⟩
      have HI := Lib.hid (HI.out.keep hb)
      have HW := Lib.hid (HW.out.trans (hb.mono HW.out.size))
      clear hb i0 ic0 ic1 ic2 ic3 ic4 if0 if1 if2 if3 if4
      obtain ⟨i0, ic0, ic1, ic2, ic3, ic4, if0, if1, if2, if3, if4⟩ := HI.out
      go_wp2_with fail
      refine bodyPost_ret (v := .bool false) (by simp [results, Tryz.results58, go_sem]) rfl ⟨by simp, HW.out⟩
    | true =>
      have HK := Lib.hid hK
      have Hb1 := Lib.hid hb1
      have Hb2 := Lib.hid hb2
      have HS := Lib.hid hS
      have HW := Lib.hid ((Below.refl w.heap.size w).alloc (Nat.le_refl _) (.cells #[.int .i64 op, .int .i64 A, .int .i64 B, .int .u64 K, .slice P n c] 33))
      have HI := Lib.hid (InAt.at_ w w.heap.size op A B K (.slice P n c) 33 rfl)
      clear hK hb1 hb2 hS
      obtain ⟨i0, ic0, ic1, ic2, ic3, ic4, if0, if1, if2, if3, if4⟩ := HI.out
      go_enter Tryz.func58, Tryz.ntmps58
      go_wp2_with fail
      refine (HK.out _ HW.out).mono ?_
      rintro en w2 ⟨rfl, hb⟩
      have HI := Lib.hid (HI.out.keep hb)
      have HW := Lib.hid (HW.out.trans (hb.mono HW.out.size))
      clear hb i0 ic0 ic1 ic2 ic3 ic4 if0 if1 if2 if3 if4
      obtain ⟨i0, ic0, ic1, ic2, ic3, ic4, if0, if1, if2, if3, if4⟩ := HI.out
      go_wp2_with fail
      refine (Hb1.out _ HW.out).mono ?_
      rintro en w3 ⟨rfl, hb⟩
      have HI := Lib.hid (HI.out.keep hb)
      have HW := Lib.hid (HW.out.trans (hb.mono HW.out.size))
      clear hb i0 ic0 ic1 ic2 ic3 ic4 if0 if1 if2 if3 if4
      obtain ⟨i0, ic0, ic1, ic2, ic3, ic4, if0, if1, if2, if3, if4⟩ := HI.out
      go_wp2_with fail
      refine (Hb2.out _ HW.out).mono ?_
      rintro en w4 ⟨rfl, hb⟩
      have HI := Lib.hid (HI.out.keep hb)
      have HW := Lib.hid (HW.out.trans (hb.mono HW.out.size))
      clear hb i0 ic0 ic1 ic2 ic3 ic4 if0 if1 if2 if3 if4
      obtain ⟨i0, ic0, ic1, ic2, ic3, ic4, if0, if1, if2, if3, if4⟩ := HI.out
      go_wp2_with fail
      refine (HS.out _ HW.out).mono ?_
      rintro en w5 ⟨rfl, hb⟩
      have HI := Lib.hid (HI.out.keep hb)
      have HW := Lib.hid (HW.out.trans (hb.mono HW.out.size))
      clear hb i0 ic0 ic1 ic2 ic3 ic4 if0 if1 if2 if3 if4
      obtain ⟨i0, ic0, ic1, ic2, ic3, ic4, if0, if1, if2, if3, if4⟩ := HI.out
      go_wp2_with fail
      refine bodyPost_ret (v := .bool s) (by simp [results, Tryz.results58, go_sem]) rfl ⟨by simp, HW.out⟩
theorem psane_8 (op A B K : Int) (P : Option Addr) (n c : Nat) (w : World) (b1 s : Bool)
    (hK : ∀ W, Below w.heap.size w W → Calls Tryz.prog 61 #[.int .i64 op] W fun en w' => en = .returned (.int .i64 8) ∧ Below W.heap.size W w')
    (hb1 : ∀ W, Below w.heap.size w W → Calls Tryz.prog 92 #[.int .u8 127, .int .u64 K] W fun en w' => en = .returned (.bool b1) ∧ Below W.heap.size W w')
    (hS : ∀ W, Below w.heap.size w W → Calls Tryz.prog 89 #[.agg #[.int .i64 op, .int .i64 A, .int .i64 B, .int .u64 K, .slice P n c], .agg #[.int .i64 op, .int .i64 0, .int .i64 0, .int .u64 K, .slice none 0 0]] W fun en w' => en = .returned (.bool s) ∧ Below W.heap.size W w') :
    Calls Tryz.prog 58 #[.agg #[.int .i64 op, .int .i64 A, .int .i64 B, .int .u64 K, .slice P n c]] w fun en w' => en = .returned (.bool (b1 && s)) ∧ Below w.heap.size w w' := by
  cases b1 with
  | false =>
    have HK := Lib.hid hK
    have Hb1 := Lib.hid hb1
    have HS := Lib.hid hS
    have HW := Lib.hid ((Below.refl w.heap.size w).alloc (Nat.le_refl _) (.cells #[.int .i64 op, .int .i64 A, .int .i64 B, .int .u64 K, .slice P n c] 33))
    have HI := Lib.hid (InAt.at_ w w.heap.size op A B K (.slice P n c) 33 rfl)
    clear hK hb1 hS
    obtain ⟨i0, ic0, ic1, ic2, ic3, ic4, if0, if1, if2, if3, if4⟩ := HI.out
    go_enter Tryz.func58, Tryz.ntmps58
    go_wp2_with fail
    refine (HK.out _ HW.out).mono ?_
    rintro en w2 ⟨rfl, hb⟩
    have HI := Lib.hid (HI.out.keep hb)
    have HW := Lib.hid (HW.out.trans (hb.mono HW.out.size))
    clear hb i0 ic0 ic1 ic2 ic3 ic4 if0 if1 if2 if3 if4
    obtain ⟨i0, ic0, ic1, ic2, ic3, ic4, if0, if1, if2, if3, if4⟩ := HI.out
    go_wp2_with fail
    refine (Hb1.out _ HW.out).mono ?_
    rintro en w3 ⟨rfl, hb⟩
    have HI := Lib.hid (HI.out.keep hb)
    have HW := Lib.hid (HW.out.trans (hb.mono HW.out.size))
    clear hb i0 ic0 ic1 ic2 ic3 ic4 if0 if1 if2 if3 if4
    obtain ⟨i0, ic0, ic1, ic2, ic3, ic4, if0, if1, if2, if3, if4⟩ := HI.out
    go_wp2_with fail
    refine bodyPost_ret (v := .bool false) (by simp [results, Tryz.results58, go_sem]) rfl ⟨by simp, HW.out⟩
  | true =>
    have HK := Lib.hid hK
    have Hb1 := Lib.hid hb1
    have HS := Lib.hid hS
    have HW := Lib.hid ((Below.refl w.heap.size w).alloc (Nat.le_refl _) (.cells #[.int .i64 op, .int .i64 A, .int .i64 B, .int .u64 K, .slice P n c] 33))
    have HI := Lib.hid (InAt.at_ w w.heap.size op A B K (.slice P n c) 33 rfl)
    clear hK hb1 hS
    obtain ⟨i0, ic0, ic1, ic2, ic3, ic4, if0, if1, if2, if3, if4⟩ := HI.out
    go_enter Tryz.func58, Tryz.ntmps58
    go_wp2_with fail
    refine (HK.out _ HW.out).mono ?_
    rintro en w2 ⟨rfl, hb⟩
    have HI := Lib.hid (HI.out.keep hb)
    have HW := Lib.hid (HW.out.trans (hb.mono HW.out.size))
    clear hb i0 ic0 ic1 ic2 ic3 ic4 if0 if1 if2 if3 if4
    obtain ⟨i0, ic0, ic1, ic2, ic3, ic4, if0, if1, if2, if3, if4⟩ := HI.out
    go_wp2_with fail
    refine (Hb1.out _ HW.out).mono ?_
    rintro en w3 ⟨rfl, hb⟩
    have HI := Lib.hid (HI.out.keep hb)
    have HW := Lib.hid (HW.out.trans (hb.mono HW.out.size))
    clear hb i0 ic0 ic1 ic2 ic3 ic4 if0 if1 if2 if3 if4
    obtain ⟨i0, ic0, ic1, ic2, ic3, ic4, if0, if1, if2, if3, if4⟩ := HI.out
    go_wp2_with fail
    refine (HS.out _ HW.out).mono ?_
    rintro en w4 ⟨rfl, hb⟩
    have HI := Lib.hid (HI.out.keep hb)
    have HW := Lib.hid (HW.out.trans (hb.mono HW.out.size))
    clear hb i0 ic0 ic1 ic2 ic3 ic4 if0 if1 if2 if3 if4
    obtain ⟨i0, ic0, ic1, ic2, ic3, ic4, if0, if1, if2, if3, if4⟩ := HI.out
    go_wp2_with fail
    refine bodyPost_ret (v := .bool s) (by simp [results, Tryz.results58, go_sem]) rfl ⟨by simp, HW.out⟩
theorem psane_9 (op A B K : Int) (P : Option Addr) (n c : Nat) (w : World) (b1 s : Bool)
    (hK : ∀ W, Below w.heap.size w W → Calls Tryz.prog 61 #[.int .i64 op] W fun en w' => en = .returned (.int .i64 9) ∧ Below W.heap.size W w')
    (hb1 : ∀ W, Below w.heap.size w W → Calls Tryz.prog 92 #[.int .u8 126, .int .u64 K] W fun en w' => en = .returned (.bool b1) ∧ Below W.heap.size W w')
    (hS : ∀ W, Below w.heap.size w W → Calls Tryz.prog 89 #[.agg #[.int .i64 op, .int .i64 A, .int .i64 B, .int .u64 K, .slice P n c], .agg #[.int .i64 op, .int .i64 0, .int .i64 0, .int .u64 K, .slice none 0 0]] W fun en w' => en = .returned (.bool s) ∧ Below W.heap.size W w') :
    Calls Tryz.prog 58 #[.agg #[.int .i64 op, .int .i64 A, .int .i64 B, .int .u64 K, .slice P n c]] w fun en w' => en = .returned (.bool (b1 && s)) ∧ Below w.heap.size w w' := by
  cases b1 with
  | false =>
    have HK := Lib.hid hK
    have Hb1 := Lib.hid hb1
    have HS := Lib.hid hS
    have HW := Lib.hid ((Below.refl w.heap.size w).alloc (Nat.le_refl _) (.cells #[.int .i64 op, .int .i64 A, .int .i64 B, .int .u64 K, .slice P n c] 33))
    have HI := Lib.hid (InAt.at_ w w.heap.size op A B K (.slice P n c) 33 rfl)
    clear hK hb1 hS
    obtain ⟨i0, ic0, ic1, ic2, ic3, ic4, if0, if1, if2, if3, if4⟩ := HI.out
    go_enter Tryz.func58, Tryz.ntmps58
    go_wp2_with fail
    refine (HK.out _ HW.out).mono ?_
    rintro en w2 ⟨rfl, hb⟩
    have HI := Lib.hid (HI.out.keep hb)
    have HW := Lib.hid (HW.out.trans (hb.mono HW.out.size))
    clear hb i0 ic0 ic1 ic2 ic3 ic4 if0 if1 if2 if3 if4
    obtain ⟨i0, ic0, ic1, ic2, ic3, ic4, if0, if1, if2, if3, if4⟩ := HI.out
    go_wp2_with fail
    refine (Hb1.out _ HW.out).mono ?_
    rintro en w3 ⟨rfl, hb⟩
    have HI := Lib.hid (HI.out.keep hb)
    have HW := Lib.hid (HW.out.trans (hb.mono HW.out.size))
    clear hb i0 ic0 ic1 ic2 ic3 ic4 if0 if1 if2 if3 if4
    obtain ⟨i0, ic0, ic1, ic2, ic3, ic4, if0, if1, if2, if3, if4⟩ := HI.out
    go_wp2_with fail
    refine bodyPost_ret (v := .bool false) (by simp [results, Tryz.results58, go_sem]) rfl ⟨by simp, HW.out⟩
  | true =>
    have HK := Lib.hid hK
    have Hb1 := Lib.hid hb1
    have HS := Lib.hid hS
    have HW := Lib.hid ((Below.refl w.heap.size w).alloc (Nat.le_refl _) (.cells #[.int .i64 op, .int .i64 A, .int .i64 B, .int .u64 K, .slice P n c] 33))
    have HI := Lib.hid (InAt.at_ w w.heap.size op A B K (.slice P n c) 33 rfl)
    clear hK hb1 hS
    obtain ⟨i0, ic0, ic1, ic2, ic3, ic4, if0, if1, if2, if3, if4⟩ := HI.out
    go_enter Tryz.func58, Tryz.ntmps58
    go_wp2_with fail
    refine (HK.out _ HW.out).mono ?_
    rintro en w2 ⟨rfl, hb⟩
    have HI := Lib.hid (HI.out.keep hb)
    have HW := Lib.hid (HW.out.trans (hb.mono HW.out.size))
    clear hb i0 ic0 ic1 ic2 ic3 ic4 if0 if1 if2 if3 if4
    obtain ⟨i0, ic0, ic1, ic2, ic3, ic4, if0, if1, if2, if3, if4⟩ := HI.out
    go_wp2_with fail
    refine (Hb1.out _ HW.out).mono ?_
    rintro en w3 ⟨rfl, hb⟩
    have HI := Lib.hid (HI.out.keep hb)
    have HW := Lib.hid (HW.out.trans (hb.mono HW.out.size))
    clear hb i0 ic0 ic1 ic2 ic3 ic4 if0 if1 if2 if3 if4
    obtain ⟨i0, ic0, ic1, ic2, ic3, ic4, if0, if1, if2, if3, if4⟩ := HI.out
    go_wp2_with fail
    refine (HS.out _ HW.out).mono ?_
    rintro en w4 ⟨rfl, hb⟩
    have HI := Lib.hid (HI.out.keep hb)
    have HW := Lib.hid (HW.out.trans (hb.mono HW.out.size))
    clear hb i0 ic0 ic1 ic2 ic3 ic4 if0 if1 if2 if3 if4
    obtain ⟨i0, ic0, ic1, ic2, ic3, ic4, if0, if1, if2, if3, if4⟩ := HI.out
    go_wp2_with fail
    refine bodyPost_ret (v := .bool s) (by simp [results, Tryz.results58, go_sem]) rfl ⟨by simp, HW.out⟩
end Go.Proofs.YtlappkflnlbfcaaGreatDoor.Ins
end

section
/- The document's Sane: may an instruction be: what may not be at once. -/
namespace Go.Proofs.YtlappkflnlbfcaaGreatDoor.Ins
open Go.RowKit Ints Typ
set_option maxRecDepth 100000
set_option maxHeartbeats 4000000

def okN (x : Int) : Bool := decide (0 ≤ x) && decide (x ≤ 4294967295)
end Go.Proofs.YtlappkflnlbfcaaGreatDoor.Ins
end

section
/- The document's Sane, at all arguments. -/
namespace Go.Proofs.YtlappkflnlbfcaaGreatDoor.Ins
open Go.RowKit Ints Typ
set_option maxRecDepth 100000
set_option maxHeartbeats 1000000

/-- May an instruction be? -/
def saneI (x : Ins) : Bool :=
  if (kd x.op ≠ 4 ∧ 0 < x.L.length) ∨ (kd x.op ≠ 6 ∧ x.B ≠ 0) ∨ (kd x.op ≠ 8 ∧ kd x.op ≠ 9 ∧ x.K ≠ 0) then false
  else if kd x.op = 1 ∨ kd x.op = 7 ∨ kd x.op = 9 then x.A == 0
  else if kd x.op = 2 then x.A == 0 || x.A == 126 || x.A == 127
  else if kd x.op = 3 ∨ kd x.op = 5 then okN x.A
  else if kd x.op = 4 then okN x.A && x.L.all okN && decide ((x.L.length : Int) ≤ 64)
  else if kd x.op = 6 then okN x.A && okN x.B
  else if kd x.op = 8 then x.A == 0 && decide (x.K < 4294967296)
  else false
end Go.Proofs.YtlappkflnlbfcaaGreatDoor.Ins
end
