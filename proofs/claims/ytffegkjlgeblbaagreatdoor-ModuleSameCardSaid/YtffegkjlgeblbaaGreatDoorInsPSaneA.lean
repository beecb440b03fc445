/- InsPSaneA. -/
import Derived.Test.YtffegkjlgeblbaaGreatDoorPkInsPSame
/- The program's Sane, kind by kind: A. -/
namespace Go.Proofs.YtffegkjlgeblbaaGreatDoor.Ins
open Go.RowKit Ints Typ
set_option maxRecDepth 100000
set_option maxHeartbeats 2000000
set_option linter.unusedVariables false

theorem psane_0 (op A B K : Int) (P : Option Addr) (n c : Nat) (w : World) (s : Bool)
    (hK : ∀ W, Below w.heap.size w W → Calls Tryz.prog 266 #[.int .i64 op] W fun en w' => en = .returned (.int .i64 0) ∧ Below W.heap.size W w') :
    Calls Tryz.prog 255 #[.agg #[.int .i64 op, .int .i64 A, .int .i64 B, .int .u64 K, .slice P n c]] w fun en w' => en = .returned (.bool (false)) ∧ Below w.heap.size w w' := by
  have HK := Lib.hid hK
  have HW := Lib.hid ((Below.refl w.heap.size w).alloc (Nat.le_refl _) (.cells #[.int .i64 op, .int .i64 A, .int .i64 B, .int .u64 K, .slice P n c] 67))
  have HI := Lib.hid (InAt.at_ w w.heap.size op A B K (.slice P n c) 67 rfl)
  clear hK
  obtain ⟨i0, ic0, ic1, ic2, ic3, ic4, if0, if1, if2, if3, if4⟩ := HI.out
  go_enter Tryz.func255, Tryz.ntmps255
  go_wp2_with fail
  refine (HK.out _ HW.out).mono ?_
  rintro en w2 ⟨rfl, hb⟩
  have HI := Lib.hid (HI.out.keep hb)
  have HW := Lib.hid (HW.out.trans (hb.mono HW.out.size))
  clear hb i0 ic0 ic1 ic2 ic3 ic4 if0 if1 if2 if3 if4
  obtain ⟨i0, ic0, ic1, ic2, ic3, ic4, if0, if1, if2, if3, if4⟩ := HI.out
  go_wp2_with fail
  refine bodyPost_ret (v := .bool false) (by simp [results, Tryz.results255, go_sem]) rfl ⟨rfl, HW.out⟩
theorem psane_1 (op A B K : Int) (P : Option Addr) (n c : Nat) (w : World) (s : Bool)
    (hK : ∀ W, Below w.heap.size w W → Calls Tryz.prog 266 #[.int .i64 op] W fun en w' => en = .returned (.int .i64 1) ∧ Below W.heap.size W w')
    (hS : ∀ W, Below w.heap.size w W → Calls Tryz.prog 108 #[.agg #[.int .i64 op, .int .i64 A, .int .i64 B, .int .u64 K, .slice P n c], .agg #[.int .i64 op, .int .i64 0, .int .i64 0, .int .u64 0, .slice none 0 0]] W fun en w' => en = .returned (.bool s) ∧ Below W.heap.size W w') :
    Calls Tryz.prog 255 #[.agg #[.int .i64 op, .int .i64 A, .int .i64 B, .int .u64 K, .slice P n c]] w fun en w' => en = .returned (.bool (s)) ∧ Below w.heap.size w w' := by
  have HK := Lib.hid hK
  have HS := Lib.hid hS
  have HW := Lib.hid ((Below.refl w.heap.size w).alloc (Nat.le_refl _) (.cells #[.int .i64 op, .int .i64 A, .int .i64 B, .int .u64 K, .slice P n c] 67))
  have HI := Lib.hid (InAt.at_ w w.heap.size op A B K (.slice P n c) 67 rfl)
  clear hK hS
  obtain ⟨i0, ic0, ic1, ic2, ic3, ic4, if0, if1, if2, if3, if4⟩ := HI.out
  go_enter Tryz.func255, Tryz.ntmps255
  go_wp2_with fail
  refine (HK.out _ HW.out).mono ?_
  rintro en w2 ⟨rfl, hb⟩
  have HI := Lib.hid (HI.out.keep hb)
  have HW := Lib.hid (HW.out.trans (hb.mono HW.out.size))
  clear hb i0 ic0 ic1 ic2 ic3 ic4 if0 if1 if2 if3 if4
  obtain ⟨i0, ic0, ic1, ic2, ic3, ic4, if0, if1, if2, if3, if4⟩ := HI.out
  go_wp2_with fail
  refine (HS.out _ HW.out).mono ?_
  rintro en w3 ⟨rfl, hb⟩
  have HI := Lib.hid (HI.out.keep hb)
  have HW := Lib.hid (HW.out.trans (hb.mono HW.out.size))
  clear hb i0 ic0 ic1 ic2 ic3 ic4 if0 if1 if2 if3 if4
  obtain ⟨i0, ic0, ic1, ic2, ic3, ic4, if0, if1, if2, if3, if4⟩ := HI.out
  go_wp2_with fail
  refine bodyPost_ret (v := .bool s) (by simp [results, Tryz.results255, go_sem]) rfl ⟨rfl, HW.out⟩
theorem psane_7 (op A B K : Int) (P : Option Addr) (n c : Nat) (w : World) (s : Bool)
    (hK : ∀ W, Below w.heap.size w W → Calls Tryz.prog 266 #[.int .i64 op] W fun en w' => en = .returned (.int .i64 7) ∧ Below W.heap.size W w')
    (hS : ∀ W, Below w.heap.size w W → Calls Tryz.prog 108 #[.agg #[.int .i64 op, .int .i64 A, .int .i64 B, .int .u64 K, .slice P n c], .agg #[.int .i64 op, .int .i64 0, .int .i64 0, .int .u64 0, .slice none 0 0]] W fun en w' => en = .returned (.bool s) ∧ Below W.heap.size W w') :
    Calls Tryz.prog 255 #[.agg #[.int .i64 op, .int .i64 A, .int .i64 B, .int .u64 K, .slice P n c]] w fun en w' => en = .returned (.bool (s)) ∧ Below w.heap.size w w' := by
  have HK := Lib.hid hK
  have HS := Lib.hid hS
  have HW := Lib.hid ((Below.refl w.heap.size w).alloc (Nat.le_refl _) (.cells #[.int .i64 op, .int .i64 A, .int .i64 B, .int .u64 K, .slice P n c] 67))
  have HI := Lib.hid (InAt.at_ w w.heap.size op A B K (.slice P n c) 67 rfl)
  clear hK hS
  obtain ⟨i0, ic0, ic1, ic2, ic3, ic4, if0, if1, if2, if3, if4⟩ := HI.out
  go_enter Tryz.func255, Tryz.ntmps255
  go_wp2_with fail
  refine (HK.out _ HW.out).mono ?_
  rintro en w2 ⟨rfl, hb⟩
  have HI := Lib.hid (HI.out.keep hb)
  have HW := Lib.hid (HW.out.trans (hb.mono HW.out.size))
  clear hb i0 ic0 ic1 ic2 ic3 ic4 if0 if1 if2 if3 if4
  obtain ⟨i0, ic0, ic1, ic2, ic3, ic4, if0, if1, if2, if3, if4⟩ := HI.out
  go_wp2_with fail
  refine (HS.out _ HW.out).mono ?_
  rintro en w3 ⟨rfl, hb⟩
  have HI := Lib.hid (HI.out.keep hb)
  have HW := Lib.hid (HW.out.trans (hb.mono HW.out.size))
  clear hb i0 ic0 ic1 ic2 ic3 ic4 if0 if1 if2 if3 if4
  obtain ⟨i0, ic0, ic1, ic2, ic3, ic4, if0, if1, if2, if3, if4⟩ := HI.out
  go_wp2_with fail
  refine bodyPost_ret (v := .bool s) (by simp [results, Tryz.results255, go_sem]) rfl ⟨rfl, HW.out⟩
theorem psane_2 (op A B K : Int) (P : Option Addr) (n c : Nat) (w : World) (b1 s : Bool)
    (hK : ∀ W, Below w.heap.size w W → Calls Tryz.prog 266 #[.int .i64 op] W fun en w' => en = .returned (.int .i64 2) ∧ Below W.heap.size W w')
    (hb1 : ∀ W, Below w.heap.size w W → Calls Tryz.prog 274 #[.int .i64 A] W fun en w' => en = .returned (.bool b1) ∧ Below W.heap.size W w')
    (hS : ∀ W, Below w.heap.size w W → Calls Tryz.prog 108 #[.agg #[.int .i64 op, .int .i64 A, .int .i64 B, .int .u64 K, .slice P n c], .agg #[.int .i64 op, .int .i64 A, .int .i64 0, .int .u64 0, .slice none 0 0]] W fun en w' => en = .returned (.bool s) ∧ Below W.heap.size W w') :
    Calls Tryz.prog 255 #[.agg #[.int .i64 op, .int .i64 A, .int .i64 B, .int .u64 K, .slice P n c]] w fun en w' => en = .returned (.bool (b1 && s)) ∧ Below w.heap.size w w' := by
  cases b1 with
  | false =>
    have HK := Lib.hid hK
    have Hb1 := Lib.hid hb1
    have HS := Lib.hid hS
    have HW := Lib.hid ((Below.refl w.heap.size w).alloc (Nat.le_refl _) (.cells #[.int .i64 op, .int .i64 A, .int .i64 B, .int .u64 K, .slice P n c] 67))
    have HI := Lib.hid (InAt.at_ w w.heap.size op A B K (.slice P n c) 67 rfl)
    clear hK hb1 hS
    obtain ⟨i0, ic0, ic1, ic2, ic3, ic4, if0, if1, if2, if3, if4⟩ := HI.out
    go_enter Tryz.func255, Tryz.ntmps255
    go_wp2_with fail
    refine (HK.out _ HW.out).mono ?_
    rintro en w2 ⟨rfl, hb⟩
    have HI := Lib.hid (HI.out.keep hb)
    have HW := Lib.hid (HW.out.trans (hb.mono HW.out.size))
    clear hb i0 ic0 ic1 ic2 ic3 ic4 if0 if1 if2 if3 if4
    obtain ⟨i0, ic0, ic1, ic2, ic3, ic4, if0, if1, if2, if3, if4⟩ := HI.out
    go_wp2_with fail
    refine (Hb1.out _ HW.out).mono ?_
    rintro en w3 ⟨rfl, hb⟩
    have HI := Lib.hid (HI.out.keep hb)
    have HW := Lib.hid (HW.out.trans (hb.mono HW.out.size))
    clear hb i0 ic0 ic1 ic2 ic3 ic4 if0 if1 if2 if3 if4
    obtain ⟨i0, ic0, ic1, ic2, ic3, ic4, if0, if1, if2, if3, if4⟩ := HI.out
    go_wp2_with fail
    refine bodyPost_ret (v := .bool false) (by simp [results, Tryz.results255, go_sem]) rfl ⟨by simp, HW.out⟩
  | true =>
    have HK := Lib.hid hK
    have Hb1 := Lib.hid hb1
    have HS := Lib.hid hS
    have HW := Lib.hid ((Below.refl w.heap.size w).alloc (Nat.le_refl _) (.cells #[.int .i64 op, .int .i64 A, .int .i64 B, .int .u64 K, .slice P n c] 67))
    have HI := Lib.hid (InAt.at_ w w.heap.size op A B K (.slice P n c) 67 rfl)
    clear hK hb1 hS
    obtain ⟨i0, ic0, ic1, ic2, ic3, ic4, if0, if1, if2, if3, if4⟩ := HI.out
    go_enter Tryz.func255, Tryz.ntmps255
    go_wp2_with fail
    refine (HK.out _ HW.out).mono ?_
    rintro en w2 ⟨rfl, hb⟩
    have HI := Lib.hid (HI.out.keep hb)
    have HW := Lib.hid (HW.out.trans (hb.mono HW.out.size))
    clear hb i0 ic0 ic1 ic2 ic3 ic4 if0 if1 if2 if3 if4
    obtain ⟨i0, ic0, ic1, ic2, ic3, ic4, if0, if1, if2, if3, if4⟩ := HI.out
    go_wp2_with fail
    refine (Hb1.out _ HW.out).mono ?_
    rintro en w3 ⟨rfl, hb⟩
    have HI := Lib.hid (HI.out.keep hb)
    have HW := Lib.hid (HW.out.trans (hb.mono HW.out.size))
    clear hb i0 ic0 ic1 ic2 ic3 ic4 if0 if1 if2 if3 if4
    obtain ⟨i0, ic0, ic1, ic2, ic3, ic4, if0, if1, if2, if3, if4⟩ := HI.out
    go_wp2_with fail
    refine (HS.out _ HW.out).mono ?_
    rintro en w4 ⟨rfl, hb⟩
    have HI := Lib.hid (HI.out.keep hb)
    have HW := Lib.hid (HW.out.trans (hb.mono HW.out.size))
    clear hb i0 ic0 ic1 ic2 ic3 ic4 if0 if1 if2 if3 if4
    obtain ⟨i0, ic0, ic1, ic2, ic3, ic4, if0, if1, if2, if3, if4⟩ := HI.out
    go_wp2_with fail
    refine bodyPost_ret (v := .bool s) (by simp [results, Tryz.results255, go_sem]) rfl ⟨by simp, HW.out⟩
theorem psane_3 (op A B K : Int) (P : Option Addr) (n c : Nat) (w : World) (b1 s : Bool)
    (hK : ∀ W, Below w.heap.size w W → Calls Tryz.prog 266 #[.int .i64 op] W fun en w' => en = .returned (.int .i64 3) ∧ Below W.heap.size W w')
    (hb1 : ∀ W, Below w.heap.size w W → Calls Tryz.prog 275 #[.int .i64 A] W fun en w' => en = .returned (.bool b1) ∧ Below W.heap.size W w')
    (hS : ∀ W, Below w.heap.size w W → Calls Tryz.prog 108 #[.agg #[.int .i64 op, .int .i64 A, .int .i64 B, .int .u64 K, .slice P n c], .agg #[.int .i64 op, .int .i64 A, .int .i64 0, .int .u64 0, .slice none 0 0]] W fun en w' => en = .returned (.bool s) ∧ Below W.heap.size W w') :
    Calls Tryz.prog 255 #[.agg #[.int .i64 op, .int .i64 A, .int .i64 B, .int .u64 K, .slice P n c]] w fun en w' => en = .returned (.bool (b1 && s)) ∧ Below w.heap.size w w' := by
  cases b1 with
  | false =>
    have HK := Lib.hid hK
    have Hb1 := Lib.hid hb1
    have HS := Lib.hid hS
    have HW := Lib.hid ((Below.refl w.heap.size w).alloc (Nat.le_refl _) (.cells #[.int .i64 op, .int .i64 A, .int .i64 B, .int .u64 K, .slice P n c] 67))
    have HI := Lib.hid (InAt.at_ w w.heap.size op A B K (.slice P n c) 67 rfl)
    clear hK hb1 hS
    obtain ⟨i0, ic0, ic1, ic2, ic3, ic4, if0, if1, if2, if3, if4⟩ := HI.out
    go_enter Tryz.func255, Tryz.ntmps255
    go_wp2_with fail
    refine (HK.out _ HW.out).mono ?_
    rintro en w2 ⟨rfl, hb⟩
    have HI := Lib.hid (HI.out.keep hb)
    have HW := Lib.hid (HW.out.trans (hb.mono HW.out.size))
    clear hb i0 ic0 ic1 ic2 ic3 ic4 if0 if1 if2 if3 if4
    obtain ⟨i0, ic0, ic1, ic2, ic3, ic4, if0, if1, if2, if3, if4⟩ := HI.out
    go_wp2_with fail
    refine (Hb1.out _ HW.out).mono ?_
    rintro en w3 ⟨rfl, hb⟩
    have HI := Lib.hid (HI.out.keep hb)
    have HW := Lib.hid (HW.out.trans (hb.mono HW.out.size))
    clear hb i0 ic0 ic1 ic2 ic3 ic4 if0 if1 if2 if3 if4
    obtain ⟨i0, ic0, ic1, ic2, ic3, ic4, if0, if1, if2, if3, if4⟩ := HI.out
    go_wp2_with fail
    refine bodyPost_ret (v := .bool false) (by simp [results, Tryz.results255, go_sem]) rfl ⟨by simp, HW.out⟩
  | true =>
    have HK := Lib.hid hK
    have Hb1 := Lib.hid hb1
    have HS := Lib.hid hS
    have HW := Lib.hid ((Below.refl w.heap.size w).alloc (Nat.le_refl _) (.cells #[.int .i64 op, .int .i64 A, .int .i64 B, .int .u64 K, .slice P n c] 67))
    have HI := Lib.hid (InAt.at_ w w.heap.size op A B K (.slice P n c) 67 rfl)
    clear hK hb1 hS
    obtain ⟨i0, ic0, ic1, ic2, ic3, ic4, if0, if1, if2, if3, if4⟩ := HI.out
    go_enter Tryz.func255, Tryz.ntmps255
    go_wp2_with fail
    refine (HK.out _ HW.out).mono ?_
    rintro en w2 ⟨rfl, hb⟩
    have HI := Lib.hid (HI.out.keep hb)
    have HW := Lib.hid (HW.out.trans (hb.mono HW.out.size))
    clear hb i0 ic0 ic1 ic2 ic3 ic4 if0 if1 if2 if3 if4
    obtain ⟨i0, ic0, ic1, ic2, ic3, ic4, if0, if1, if2, if3, if4⟩ := HI.out
    go_wp2_with fail
    refine (Hb1.out _ HW.out).mono ?_
    rintro en w3 ⟨rfl, hb⟩
    have HI := Lib.hid (HI.out.keep hb)
    have HW := Lib.hid (HW.out.trans (hb.mono HW.out.size))
    clear hb i0 ic0 ic1 ic2 ic3 ic4 if0 if1 if2 if3 if4
    obtain ⟨i0, ic0, ic1, ic2, ic3, ic4, if0, if1, if2, if3, if4⟩ := HI.out
    go_wp2_with fail
    refine (HS.out _ HW.out).mono ?_
    rintro en w4 ⟨rfl, hb⟩
    have HI := Lib.hid (HI.out.keep hb)
    have HW := Lib.hid (HW.out.trans (hb.mono HW.out.size))
    clear hb i0 ic0 ic1 ic2 ic3 ic4 if0 if1 if2 if3 if4
    obtain ⟨i0, ic0, ic1, ic2, ic3, ic4, if0, if1, if2, if3, if4⟩ := HI.out
    go_wp2_with fail
    refine bodyPost_ret (v := .bool s) (by simp [results, Tryz.results255, go_sem]) rfl ⟨by simp, HW.out⟩
theorem psane_5 (op A B K : Int) (P : Option Addr) (n c : Nat) (w : World) (b1 s : Bool)
    (hK : ∀ W, Below w.heap.size w W → Calls Tryz.prog 266 #[.int .i64 op] W fun en w' => en = .returned (.int .i64 5) ∧ Below W.heap.size W w')
    (hb1 : ∀ W, Below w.heap.size w W → Calls Tryz.prog 275 #[.int .i64 A] W fun en w' => en = .returned (.bool b1) ∧ Below W.heap.size W w')
    (hS : ∀ W, Below w.heap.size w W → Calls Tryz.prog 108 #[.agg #[.int .i64 op, .int .i64 A, .int .i64 B, .int .u64 K, .slice P n c], .agg #[.int .i64 op, .int .i64 A, .int .i64 0, .int .u64 0, .slice none 0 0]] W fun en w' => en = .returned (.bool s) ∧ Below W.heap.size W w') :
    Calls Tryz.prog 255 #[.agg #[.int .i64 op, .int .i64 A, .int .i64 B, .int .u64 K, .slice P n c]] w fun en w' => en = .returned (.bool (b1 && s)) ∧ Below w.heap.size w w' := by
  cases b1 with
  | false =>
    have HK := Lib.hid hK
    have Hb1 := Lib.hid hb1
    have HS := Lib.hid hS
    have HW := Lib.hid ((Below.refl w.heap.size w).alloc (Nat.le_refl _) (.cells #[.int .i64 op, .int .i64 A, .int .i64 B, .int .u64 K, .slice P n c] 67))
    have HI := Lib.hid (InAt.at_ w w.heap.size op A B K (.slice P n c) 67 rfl)
    clear hK hb1 hS
    obtain ⟨i0, ic0, ic1, ic2, ic3, ic4, if0, if1, if2, if3, if4⟩ := HI.out
    go_enter Tryz.func255, Tryz.ntmps255
    go_wp2_with fail
    refine (HK.out _ HW.out).mono ?_
    rintro en w2 ⟨rfl, hb⟩
    have HI := Lib.hid (HI.out.keep hb)
    have HW := Lib.hid (HW.out.trans (hb.mono HW.out.size))
    clear hb i0 ic0 ic1 ic2 ic3 ic4 if0 if1 if2 if3 if4
    obtain ⟨i0, ic0, ic1, ic2, ic3, ic4, if0, if1, if2, if3, if4⟩ := HI.out
    go_wp2_with fail
    refine (Hb1.out _ HW.out).mono ?_
    rintro en w3 ⟨rfl, hb⟩
    have HI := Lib.hid (HI.out.keep hb)
    have HW := Lib.hid (HW.out.trans (hb.mono HW.out.size))
    clear hb i0 ic0 ic1 ic2 ic3 ic4 if0 if1 if2 if3 if4
    obtain ⟨i0, ic0, ic1, ic2, ic3, ic4, if0, if1, if2, if3, if4⟩ := HI.out
    go_wp2_with fail
    refine bodyPost_ret (v := .bool false) (by simp [results, Tryz.results255, go_sem]) rfl ⟨by simp, HW.out⟩
  | true =>
    have HK := Lib.hid hK
    have Hb1 := Lib.hid hb1
    have HS := Lib.hid hS
    have HW := Lib.hid ((Below.refl w.heap.size w).alloc (Nat.le_refl _) (.cells #[.int .i64 op, .int .i64 A, .int .i64 B, .int .u64 K, .slice P n c] 67))
    have HI := Lib.hid (InAt.at_ w w.heap.size op A B K (.slice P n c) 67 rfl)
    clear hK hb1 hS
    obtain ⟨i0, ic0, ic1, ic2, ic3, ic4, if0, if1, if2, if3, if4⟩ := HI.out
    go_enter Tryz.func255, Tryz.ntmps255
    go_wp2_with fail
    refine (HK.out _ HW.out).mono ?_
    rintro en w2 ⟨rfl, hb⟩
    have HI := Lib.hid (HI.out.keep hb)
    have HW := Lib.hid (HW.out.trans (hb.mono HW.out.size))
    clear hb i0 ic0 ic1 ic2 ic3 ic4 if0 if1 if2 if3 if4
    obtain ⟨i0, ic0, ic1, ic2, ic3, ic4, if0, if1, if2, if3, if4⟩ := HI.out
    go_wp2_with fail
    refine (Hb1.out _ HW.out).mono ?_
    rintro en w3 ⟨rfl, hb⟩
    have HI := Lib.hid (HI.out.keep hb)
    have HW := Lib.hid (HW.out.trans (hb.mono HW.out.size))
    clear hb i0 ic0 ic1 ic2 ic3 ic4 if0 if1 if2 if3 if4
    obtain ⟨i0, ic0, ic1, ic2, ic3, ic4, if0, if1, if2, if3, if4⟩ := HI.out
    go_wp2_with fail
    refine (HS.out _ HW.out).mono ?_
    rintro en w4 ⟨rfl, hb⟩
    have HI := Lib.hid (HI.out.keep hb)
    have HW := Lib.hid (HW.out.trans (hb.mono HW.out.size))
    clear hb i0 ic0 ic1 ic2 ic3 ic4 if0 if1 if2 if3 if4
    obtain ⟨i0, ic0, ic1, ic2, ic3, ic4, if0, if1, if2, if3, if4⟩ := HI.out
    go_wp2_with fail
    refine bodyPost_ret (v := .bool s) (by simp [results, Tryz.results255, go_sem]) rfl ⟨by simp, HW.out⟩
end Go.Proofs.YtffegkjlgeblbaaGreatDoor.Ins
