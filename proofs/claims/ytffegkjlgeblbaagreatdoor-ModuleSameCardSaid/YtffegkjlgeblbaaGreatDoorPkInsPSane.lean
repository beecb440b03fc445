/- InsPSaneB, InsSaneA, InsSane, InsPSane. -/
import Derived.Test.YtffegkjlgeblbaaGreatDoorPkInsPSame
import Derived.Test.YtffegkjlgeblbaaGreatDoorInsPSaneA
section
/- The program's Sane, kind by kind: B. -/
namespace Go.Proofs.YtffegkjlgeblbaaGreatDoor.Ins
open Go.RowKit Ints Typ
set_option maxRecDepth 100000
set_option maxHeartbeats 2000000
set_option linter.unusedVariables false

theorem psane_4 (op A B K : Int) (P : Option Addr) (n c : Nat) (w : World) (b1 b2 s : Bool)
    (hK : ∀ W, Below w.heap.size w W → Calls Tryz.prog 266 #[.int .i64 op] W fun en w' => en = .returned (.int .i64 4) ∧ Below W.heap.size W w')
    (hb1 : ∀ W, Below w.heap.size w W → Calls Tryz.prog 276 #[.slice P n c] W fun en w' => en = .returned (.bool b1) ∧ Below W.heap.size W w')
    (hb2 : ∀ W, Below w.heap.size w W → Calls Tryz.prog 275 #[.int .i64 A] W fun en w' => en = .returned (.bool b2) ∧ Below W.heap.size W w')
    (hS : ∀ W, Below w.heap.size w W → Calls Tryz.prog 108 #[.agg #[.int .i64 op, .int .i64 A, .int .i64 B, .int .u64 K, .slice P n c], .agg #[.int .i64 op, .int .i64 A, .int .i64 0, .int .u64 0, .slice P n c]] W fun en w' => en = .returned (.bool s) ∧ Below W.heap.size W w') :
    Calls Tryz.prog 255 #[.agg #[.int .i64 op, .int .i64 A, .int .i64 B, .int .u64 K, .slice P n c]] w fun en w' => en = .returned (.bool (b1 && b2 && s)) ∧ Below w.heap.size w w' := by
  cases b1 with
  | false =>
    have HK := Lib.hid hK
    have Hb1 := Lib.hid hb1
    have Hb2 := Lib.hid hb2
    have HS := Lib.hid hS
    have HW := Lib.hid ((Below.refl w.heap.size w).alloc (Nat.le_refl _) (.cells #[.int .i64 op, .int .i64 A, .int .i64 B, .int .u64 K, .slice P n c] 67))
    have HI := Lib.hid (InAt.at_ w w.heap.size op A B K (.slice P n c) 67 rfl)
    clear hK hb1 hb2 hS
    obtain ⟨i0, ic0, ic1, ic2, ic3, ic4, if0, if1, if2, if3, if4⟩ := HI.out
    go_enter Tryz.func255, Tryz.ntmps255
    go_wp2_with fail
    refine (HK.out _ HW.out).mono ?_
    rintro en w2 ⟨rfl, hb⟩
    have HI := Lib.hid (HI.out.keep hb)
    have HW := Lib.hid (HW.out.trans (hb.mono HW.out.size))
    clear hb i0 ic0 ic1 ic2 ic3 ic4 if0 if1 if2 if3 if4
    obtain ⟨i0, ic0, ic1, ic2, ic3, ic4, if0, if1, if2, if3, if4⟩ := HI.out
    go_wp2_with fail
    refine (Hb1.out _ HW.out).mono ?_
    rintro en w3 ⟨rfl, hb⟩
    have HI := Lib.hid (HI.out.keep hb)
    have HW := Lib.hid (HW.out.trans (hb.mono HW.out.size))
    clear hb i0 ic0 ic1 ic2 ic3 ic4 if0 if1 if2 if3 if4
    obtain ⟨i0, ic0, ic1, ic2, ic3, ic4, if0, if1, if2, if3, if4⟩ := HI.out
    go_wp2_with fail
    refine bodyPost_ret (v := .bool false) (by simp [results, Tryz.results255, go_sem]) rfl ⟨by simp, HW.out⟩
  | true =>
    cases b2 with
    | false =>
      have HK := Lib.hid hK
      have Hb1 := Lib.hid hb1
      have Hb2 := Lib.hid hb2
      have HS := Lib.hid hS
      have HW := Lib.hid ((Below.refl w.heap.size w).alloc (Nat.le_refl _) (.cells #[.int .i64 op, .int .i64 A, .int .i64 B, .int .u64 K, .slice P n c] 67))
      have HI := Lib.hid (InAt.at_ w w.heap.size op A B K (.slice P n c) 67 rfl)
      clear hK hb1 hb2 hS
      obtain ⟨i0, ic0, ic1, ic2, ic3, ic4, if0, if1, if2, if3, if4⟩ := HI.out
      go_enter Tryz.func255, Tryz.ntmps255
      go_wp2_with fail
      refine (HK.out _ HW.out).mono ?_
      rintro en w2 ⟨rfl, hb⟩
      have HI := Lib.hid (HI.out.keep hb)
      have HW := Lib.hid (HW.out.trans (hb.mono HW.out.size))
      clear hb i0 ic0 ic1 ic2 ic3 ic4 if0 if1 if2 if3 if4
      obtain ⟨i0, ic0, ic1, ic2, ic3, ic4, if0, if1, if2, if3, if4⟩ := HI.out
      go_wp2_with fail
      refine (Hb1.out _ HW.out).mono ?_
      rintro en w3 ⟨rfl, hb⟩
      have HI := Lib.hid (HI.out.keep hb)
      have HW := Lib.hid (HW.out.trans (hb.mono HW.out.size))
      clear hb i0 ic0 ic1 ic2 ic3 ic4 if0 if1 if2 if3 if4
      obtain ⟨i0, ic0, ic1, ic2, ic3, ic4, if0, if1, if2, if3, if4⟩ := HI.out
      go_wp2_with fail
      refine (Hb2.out _ HW.out).mono ?_
      rintro en w4 ⟨rfl, hb⟩
      have HI := Lib.hid (HI.out.keep hb)
      have HW := Lib.hid (HW.out.trans (hb.mono HW.out.size))
      clear hb i0 ic0 ic1 ic2 ic3 ic4 if0 if1 if2 if3 if4
      obtain ⟨i0, ic0, ic1, ic2, ic3, ic4, if0, if1, if2, if3, if4⟩ := HI.out
      go_wp2_with fail
      refine bodyPost_ret (v := .bool false) (by simp [results, Tryz.results255, go_sem]) rfl ⟨by simp, HW.out⟩
    | true =>
      have HK := Lib.hid hK
      have Hb1 := Lib.hid hb1
      have Hb2 := Lib.hid hb2
      have HS := Lib.hid hS
      have HW := Lib.hid ((Below.refl w.heap.size w).alloc (Nat.le_refl _) (.cells #[.int .i64 op, .int .i64 A, .int .i64 B, .int .u64 K, .slice P n c] 67))
      have HI := Lib.hid (InAt.at_ w w.heap.size op A B K (.slice P n c) 67 rfl)
      clear hK hb1 hb2 hS
      obtain ⟨i0, ic0, ic1, ic2, ic3, ic4, if0, if1, if2, if3, if4⟩ := HI.out
      go_enter Tryz.func255, Tryz.ntmps255
      go_wp2_with fail
      refine (HK.out _ HW.out).mono ?_
      rintro en w2 ⟨rfl, hb⟩
      have HI := Lib.hid (HI.out.keep hb)
      have HW := Lib.hid (HW.out.trans (hb.mono HW.out.size))
      clear hb i0 ic0 ic1 ic2 ic3 ic4 if0 if1 if2 if3 if4
      obtain ⟨i0, ic0, ic1, ic2, ic3, ic4, if0, if1, if2, if3, if4⟩ := HI.out
      go_wp2_with fail
      refine (Hb1.out _ HW.out).mono ?_
      rintro en w3 ⟨rfl, hb⟩
      have HI := Lib.hid (HI.out.keep hb)
      have HW := Lib.hid (HW.out.trans (hb.mono HW.out.size))
      clear hb i0 ic0 ic1 ic2 ic3 ic4 if0 if1 if2 if3 if4
      obtain ⟨i0, ic0, ic1, ic2, ic3, ic4, if0, if1, if2, if3, if4⟩ := HI.out
      go_wp2_with fail
      refine (Hb2.out _ HW.out).mono ?_
      rintro en w4 ⟨rfl, hb⟩
      have HI := Lib.hid (HI.out.keep hb)
      have HW := Lib.hid (HW.out.trans (hb.mono HW.out.size))
      clear hb i0 ic0 ic1 ic2 ic3 ic4 if0 if1 if2 if3 if4
      obtain ⟨i0, ic0, ic1, ic2, ic3, ic4, if0, if1, if2, if3, if4⟩ := HI.out
      go_wp2_with fail
      refine (HS.out _ HW.out).mono ?_
      rintro en w5 ⟨rfl, hb⟩
      have HI := Lib.hid (HI.out.keep hb)
      have HW := Lib.hid (HW.out.trans (hb.mono HW.out.size))
      clear hb i0 ic0 ic1 ic2 ic3 ic4 if0 if1 if2 if3 if4
      obtain ⟨i0, ic0, ic1, ic2, ic3, ic4, if0, if1, if2, if3, if4⟩ := HI.out
      go_wp2_with fail
      refine bodyPost_ret (v := .bool s) (by simp [results, Tryz.results255, go_sem]) rfl ⟨by simp, HW.out⟩
theorem psane_6 (op A B K : Int) (P : Option Addr) (n c : Nat) (w : World) (b1 b2 s : Bool)
    (hK : ∀ W, Below w.heap.size w W → Calls Tryz.prog 266 #[.int .i64 op] W fun en w' => en = .returned (.int .i64 6) ∧ Below W.heap.size W w')
    (hb1 : ∀ W, Below w.heap.size w W → Calls Tryz.prog 275 #[.int .i64 A] W fun en w' => en = .returned (.bool b1) ∧ Below W.heap.size W w')
    (hb2 : ∀ W, Below w.heap.size w W → Calls Tryz.prog 275 #[.int .i64 B] W fun en w' => en = .returned (.bool b2) ∧ Below W.heap.size W w')
    (hS : ∀ W, Below w.heap.size w W → Calls Tryz.prog 108 #[.agg #[.int .i64 op, .int .i64 A, .int .i64 B, .int .u64 K, .slice P n c], .agg #[.int .i64 op, .int .i64 A, .int .i64 B, .int .u64 0, .slice none 0 0]] W fun en w' => en = .returned (.bool s) ∧ Below W.heap.size W w') :
    Calls Tryz.prog 255 #[.agg #[.int .i64 op, .int .i64 A, .int .i64 B, .int .u64 K, .slice P n c]] w fun en w' => en = .returned (.bool (b1 && b2 && s)) ∧ Below w.heap.size w w' := by
  cases b1 with
  | false =>
    have HK := Lib.hid hK
    have Hb1 := Lib.hid hb1
    have Hb2 := Lib.hid hb2
    have HS := Lib.hid hS
    have HW := Lib.hid ((Below.refl w.heap.size w).alloc (Nat.le_refl _) (.cells #[.int .i64 op, .int .i64 A, .int .i64 B, .int .u64 K, .slice P n c] 67))
    have HI := Lib.hid (InAt.at_ w w.heap.size op A B K (.slice P n c) 67 rfl)
    clear hK hb1 hb2 hS
    obtain ⟨i0, ic0, ic1, ic2, ic3, ic4, if0, if1, if2, if3, if4⟩ := HI.out
    go_enter Tryz.func255, Tryz.ntmps255
    go_wp2_with fail
    refine (HK.out _ HW.out).mono ?_
    rintro en w2 ⟨rfl, hb⟩
    have HI := Lib.hid (HI.out.keep hb)
    have HW := Lib.hid (HW.out.trans (hb.mono HW.out.size))
    clear hb i0 ic0 ic1 ic2 ic3 ic4 if0 if1 if2 if3 if4
    obtain ⟨i0, ic0, ic1, ic2, ic3, ic4, if0, if1, if2, if3, if4⟩ := HI.out
    go_wp2_with fail
    refine (Hb1.out _ HW.out).mono ?_
    rintro en w3 ⟨rfl, hb⟩
    have HI := Lib.hid (HI.out.keep hb)
    have HW := Lib.hid (HW.out.trans (hb.mono HW.out.size))
    clear hb i0 ic0 ic1 ic2 ic3 ic4 if0 if1 if2 if3 if4
    obtain ⟨i0, ic0, ic1, ic2, ic3, ic4, if0, if1, if2, if3, if4⟩ := HI.out
    go_wp2_with fail
    refine bodyPost_ret (v := .bool false) (by simp [results, Tryz.results255, go_sem]) rfl ⟨by simp, HW.out⟩
  | true =>
    cases b2 with
    | false =>
      have HK := Lib.hid hK
      have Hb1 := Lib.hid hb1
      have Hb2 := Lib.hid hb2
      have HS := Lib.hid hS
      have HW := Lib.hid ((Below.refl w.heap.size w).alloc (Nat.le_refl _) (.cells #[.int .i64 op, .int .i64 A, .int .i64 B, .int .u64 K, .slice P n c] 67))
      have HI := Lib.hid (InAt.at_ w w.heap.size op A B K (.slice P n c) 67 rfl)
      clear hK hb1 hb2 hS
      obtain ⟨i0, ic0, ic1, ic2, ic3, ic4, if0, if1, if2, if3, if4⟩ := HI.out
      go_enter Tryz.func255, Tryz.ntmps255
      go_wp2_with fail
      refine (HK.out _ HW.out).mono ?_
      rintro en w2 ⟨rfl, hb⟩
      have HI := Lib.hid (HI.out.keep hb)
      have HW := Lib.hid (HW.out.trans (hb.mono HW.out.size))
      clear hb i0 ic0 ic1 ic2 ic3 ic4 if0 if1 if2 if3 if4
      obtain ⟨i0, ic0, ic1, ic2, ic3, ic4, if0, if1, if2, if3, if4⟩ := HI.out
      go_wp2_with fail
      refine (Hb1.out _ HW.out).mono ?_
      rintro en w3 ⟨rfl, hb⟩
      have HI := Lib.hid (HI.out.keep hb)
      have HW := Lib.hid (HW.out.trans (hb.mono HW.out.size))
      clear hb i0 ic0 ic1 ic2 ic3 ic4 if0 if1 if2 if3 if4
      obtain ⟨i0, ic0, ic1, ic2, ic3, ic4, if0, if1, if2, if3, if4⟩ := HI.out
      go_wp2_with fail
      refine (Hb2.out _ HW.out).mono ?_
      rintro en w4 ⟨rfl, hb⟩
      have HI := Lib.hid (HI.out.keep hb)
      have HW := Lib.hid (HW.out.trans (hb.mono HW.out.size))
      clear hb i0 ic0 ic1 ic2 ic3 ic4 if0 if1 if2 if3 if4
      obtain ⟨i0, ic0, ic1, ic2, ic3, ic4, if0, if1, if2, if3, if4⟩ := HI.out
      go_wp2_with fail
      refine bodyPost_ret (v := .bool false) (by simp [results, Tryz.results255, go_sem]) rfl ⟨by simp, HW.out⟩
    | true =>
      have HK := Lib.hid hK
      have Hb1 := Lib.hid hb1
      have Hb2 := Lib.hid hb2
      have HS := Lib.hid hS
      have HW := Lib.hid ((Below.refl w.heap.size w).alloc (Nat.le_refl _) (.cells #[.int .i64 op, .int .i64 A, .int .i64 B, .int .u64 K, .slice P n c] 67))
      have HI := Lib.hid (InAt.at_ w w.heap.size op A B K (.slice P n c) 67 rfl)
      clear hK hb1 hb2 hS
      obtain ⟨i0, ic0, ic1, ic2, ic3, ic4, if0, if1, if2, if3, if4⟩ := HI.out
      go_enter Tryz.func255, Tryz.ntmps255
      go_wp2_with fail
      refine (HK.out _ HW.out).mono ?_
      rintro en w2 ⟨rfl, hb⟩
      have HI := Lib.hid (HI.out.keep hb)
      have HW := Lib.hid (HW.out.trans (hb.mono HW.out.size))
      clear hb i0 ic0 ic1 ic2 ic3 ic4 if0 if1 if2 if3 if4
      obtain ⟨i0, ic0, ic1, ic2, ic3, ic4, if0, if1, if2, if3, if4⟩ := HI.out
      go_wp2_with fail
      refine (Hb1.out _ HW.out).mono ?_
      rintro en w3 ⟨rfl, hb⟩
      have HI := Lib.hid (HI.out.keep hb)
      have HW := Lib.hid (HW.out.trans (hb.mono HW.out.size))
      clear hb i0 ic0 ic1 ic2 ic3 ic4 if0 if1 if2 if3 if4
      obtain ⟨i0, ic0, ic1, ic2, ic3, ic4, if0, if1, if2, if3, if4⟩ := HI.out
      go_wp2_with fail
      refine (Hb2.out _ HW.out).mono ?_
      rintro en w4 ⟨rfl, hb⟩
      have HI := Lib.hid (HI.out.keep hb)
      have HW := Lib.hid (HW.out.trans (hb.mono HW.out.size))
      clear hb i0 ic0 ic1 ic2 ic3 ic4 if0 if1 if2 if3 if4
      obtain ⟨i0, ic0, ic1, ic2, ic3, ic4, if0, if1, if2, if3, if4⟩ := HI.out
      go_wp2_with fail
      refine (HS.out _ HW.out).mono ?_
      rintro en w5 ⟨rfl, hb⟩
      have HI := Lib.hid (HI.out.keep hb)
      have HW := Lib.hid (HW.out.trans (hb.mono HW.out.size))
      clear hb i0 ic0 ic1 ic2 ic3 ic4 if0 if1 if2 if3 if4
      obtain ⟨i0, ic0, ic1, ic2, ic3, ic4, if0, if1, if2, if3, if4⟩ := HI.out
      go_wp2_with fail
      refine bodyPost_ret (v := .bool s) (by simp [results, Tryz.results255, go_sem]) rfl ⟨by simp, HW.out⟩
theorem psane_8 (op A B K : Int) (P : Option Addr) (n c : Nat) (w : World) (b1 s : Bool)
    (hK : ∀ W, Below w.heap.size w W → Calls Tryz.prog 266 #[.int .i64 op] W fun en w' => en = .returned (.int .i64 8) ∧ Below W.heap.size W w')
    (hb1 : ∀ W, Below w.heap.size w W → Calls Tryz.prog 277 #[.int .u8 127, .int .u64 K] W fun en w' => en = .returned (.bool b1) ∧ Below W.heap.size W w')
    (hS : ∀ W, Below w.heap.size w W → Calls Tryz.prog 108 #[.agg #[.int .i64 op, .int .i64 A, .int .i64 B, .int .u64 K, .slice P n c], .agg #[.int .i64 op, .int .i64 0, .int .i64 0, .int .u64 K, .slice none 0 0]] W fun en w' => en = .returned (.bool s) ∧ Below W.heap.size W w') :
    Calls Tryz.prog 255 #[.agg #[.int .i64 op, .int .i64 A, .int .i64 B, .int .u64 K, .slice P n c]] w fun en w' => en = .returned (.bool (b1 && s)) ∧ Below w.heap.size w w' := by
  cases b1 with
  | false =>
    have HK := Lib.hid hK
    have Hb1 := Lib.hid hb1
    have HS := Lib.hid hS
    have HW := Lib.hid ((Below.refl w.heap.size w).alloc (Nat.le_refl _) (.cells #[.int .i64 op, .int .i64 A, .int .i64 B, .int .u64 K, .slice P n c] 67))
    have HI := Lib.hid (InAt.at_ w w.heap.size op A B K (.slice P n c) 67 rfl)
    clear hK hb1 hS
    obtain ⟨i0, ic0, ic1, ic2, ic3, ic4, if0, if1, if2, if3, if4⟩ := HI.out
    go_enter Tryz.func255, Tryz.ntmps255
    go_wp2_with fail
    refine (HK.out _ HW.out).mono ?_
    rintro en w2 ⟨rfl, hb⟩
    have HI := Lib.hid (HI.out.keep hb)
    have HW := Lib.hid (HW.out.trans (hb.mono HW.out.size))
    clear hb i0 ic0 ic1 ic2 ic3 ic4 if0 if1 if2 if3 if4
    obtain ⟨i0, ic0, ic1, ic2, ic3, ic4, if0, if1, if2, if3, if4⟩ := HI.out
    go_wp2_with fail
    refine (Hb1.out _ HW.out).mono ?_
    rintro en w3 ⟨rfl, hb⟩
    have HI := Lib.hid (HI.out.keep hb)
    have HW := Lib.hid (HW.out.trans (hb.mono HW.out.size))
    clear hb i0 ic0 ic1 ic2 ic3 ic4 if0 if1 if2 if3 if4
    obtain ⟨i0, ic0, ic1, ic2, ic3, ic4, if0, if1, if2, if3, if4⟩ := HI.out
    go_wp2_with fail
    refine bodyPost_ret (v := .bool false) (by simp [results, Tryz.results255, go_sem]) rfl ⟨by simp, HW.out⟩
  | true =>
    have HK := Lib.hid hK
    have Hb1 := Lib.hid hb1
    have HS := Lib.hid hS
    have HW := Lib.hid ((Below.refl w.heap.size w).alloc (Nat.le_refl _) (.cells #[.int .i64 op, .int .i64 A, .int .i64 B, .int .u64 K, .slice P n c] 67))
    have HI := Lib.hid (InAt.at_ w w.heap.size op A B K (.slice P n c) 67 rfl)
    clear hK hb1 hS
    obtain ⟨i0, ic0, ic1, ic2, ic3, ic4, if0, if1, if2, if3, if4⟩ := HI.out
    go_enter Tryz.func255, Tryz.ntmps255
    go_wp2_with fail
    refine (HK.out _ HW.out).mono ?_
    rintro en w2 ⟨rfl, hb⟩
    have HI := Lib.hid (HI.out.keep hb)
    have HW := Lib.hid (HW.out.trans (hb.mono HW.out.size))
    clear hb i0 ic0 ic1 ic2 ic3 ic4 if0 if1 if2 if3 if4
    obtain ⟨i0, ic0, ic1, ic2, ic3, ic4, if0, if1, if2, if3, if4⟩ := HI.out
    go_wp2_with fail
    refine (Hb1.out _ HW.out).mono ?_
    rintro en w3 ⟨rfl, hb⟩
    have HI := Lib.hid (HI.out.keep hb)
    have HW := Lib.hid (HW.out.trans (hb.mono HW.out.size))
    clear hb i0 ic0 ic1 ic2 ic3 ic4 if0 if1 if2 if3 if4
    obtain ⟨i0, ic0, ic1, ic2, ic3, ic4, if0, if1, if2, if3, if4⟩ := HI.out
    go_wp2_with fail
    refine (HS.out _ HW.out).mono ?_
    rintro en w4 ⟨rfl, hb⟩
    have HI := Lib.hid (HI.out.keep hb)
    have HW := Lib.hid (HW.out.trans (hb.mono HW.out.size))
    clear hb i0 ic0 ic1 ic2 ic3 ic4 if0 if1 if2 if3 if4
    obtain ⟨i0, ic0, ic1, ic2, ic3, ic4, if0, if1, if2, if3, if4⟩ := HI.out
    go_wp2_with fail
    refine bodyPost_ret (v := .bool s) (by simp [results, Tryz.results255, go_sem]) rfl ⟨by simp, HW.out⟩
theorem psane_9 (op A B K : Int) (P : Option Addr) (n c : Nat) (w : World) (b1 s : Bool)
    (hK : ∀ W, Below w.heap.size w W → Calls Tryz.prog 266 #[.int .i64 op] W fun en w' => en = .returned (.int .i64 9) ∧ Below W.heap.size W w')
    (hb1 : ∀ W, Below w.heap.size w W → Calls Tryz.prog 277 #[.int .u8 126, .int .u64 K] W fun en w' => en = .returned (.bool b1) ∧ Below W.heap.size W w')
    (hS : ∀ W, Below w.heap.size w W → Calls Tryz.prog 108 #[.agg #[.int .i64 op, .int .i64 A, .int .i64 B, .int .u64 K, .slice P n c], .agg #[.int .i64 op, .int .i64 0, .int .i64 0, .int .u64 K, .slice none 0 0]] W fun en w' => en = .returned (.bool s) ∧ Below W.heap.size W w') :
    Calls Tryz.prog 255 #[.agg #[.int .i64 op, .int .i64 A, .int .i64 B, .int .u64 K, .slice P n c]] w fun en w' => en = .returned (.bool (b1 && s)) ∧ Below w.heap.size w w' := by
  cases b1 with
  | false =>
    have HK := Lib.hid hK
    have Hb1 := Lib.hid hb1
    have HS := Lib.hid hS
    have HW := Lib.hid ((Below.refl w.heap.size w).alloc (Nat.le_refl _) (.cells #[.int .i64 op, .int .i64 A, .int .i64 B, .int .u64 K, .slice P n c] 67))
    have HI := Lib.hid (InAt.at_ w w.heap.size op A B K (.slice P n c) 67 rfl)
    clear hK hb1 hS
    obtain ⟨i0, ic0, ic1, ic2, ic3, ic4, if0, if1, if2, if3, if4⟩ := HI.out
    go_enter Tryz.func255, Tryz.ntmps255
    go_wp2_with fail
    refine (HK.out _ HW.out).mono ?_
    rintro en w2 ⟨rfl, hb⟩
    have HI := Lib.hid (HI.out.keep hb)
    have HW := Lib.hid (HW.out.trans (hb.mono HW.out.size))
    clear hb i0 ic0 ic1 ic2 ic3 ic4 if0 if1 if2 if3 if4
    obtain ⟨i0, ic0, ic1, ic2, ic3, ic4, if0, if1, if2, if3, if4⟩ := HI.out
    go_wp2_with fail
    refine (Hb1.out _ HW.out).mono ?_
    rintro en w3 ⟨rfl, hb⟩
    have HI := Lib.hid (HI.out.keep hb)
    have HW := Lib.hid (HW.out.trans (hb.mono HW.out.size))
    clear hb i0 ic0 ic1 ic2 ic3 ic4 if0 if1 if2 if3 if4
    obtain ⟨i0, ic0, ic1, ic2, ic3, ic4, if0, if1, if2, if3, if4⟩ := HI.out
    go_wp2_with fail
    refine bodyPost_ret (v := .bool false) (by simp [results, Tryz.results255, go_sem]) rfl ⟨by simp, HW.out⟩
  | true =>
    have HK := Lib.hid hK
    have Hb1 := Lib.hid hb1
    have HS := Lib.hid hS
    have HW := Lib.hid ((Below.refl w.heap.size w).alloc (Nat.le_refl _) (.cells #[.int .i64 op, .int .i64 A, .int .i64 B, .int .u64 K, .slice P n c] 67))
    have HI := Lib.hid (InAt.at_ w w.heap.size op A B K (.slice P n c) 67 rfl)
    clear hK hb1 hS
    obtain ⟨i0, ic0, ic1, ic2, ic3, ic4, if0, if1, if2, if3, if4⟩ := HI.out
    go_enter Tryz.func255, Tryz.ntmps255
    go_wp2_with fail
    refine (HK.out _ HW.out).mono ?_
    rintro en w2 ⟨rfl, hb⟩
    have HI := Lib.hid (HI.out.keep hb)
    have HW := Lib.hid (HW.out.trans (hb.mono HW.out.size))
    clear hb i0 ic0 ic1 ic2 ic3 ic4 if0 if1 if2 if3 if4
    obtain ⟨i0, ic0, ic1, ic2, ic3, ic4, if0, if1, if2, if3, if4⟩ := HI.out
    go_wp2_with fail
    refine (Hb1.out _ HW.out).mono ?_
    rintro en w3 ⟨rfl, hb⟩
    have HI := Lib.hid (HI.out.keep hb)
    have HW := Lib.hid (HW.out.trans (hb.mono HW.out.size))
    clear hb i0 ic0 ic1 ic2 ic3 ic4 if0 if1 if2 if3 if4
    obtain ⟨i0, ic0, ic1, ic2, ic3, ic4, if0, if1, if2, if3, if4⟩ := HI.out
    go_wp2_with fail
    refine (HS.out _ HW.out).mono ?_
    rintro en w4 ⟨rfl, hb⟩
    have HI := Lib.hid (HI.out.keep hb)
    have HW := Lib.hid (HW.out.trans (hb.mono HW.out.size))
    clear hb i0 ic0 ic1 ic2 ic3 ic4 if0 if1 if2 if3 if4
    obtain ⟨i0, ic0, ic1, ic2, ic3, ic4, if0, if1, if2, if3, if4⟩ := HI.out
    go_wp2_with fail
    refine bodyPost_ret (v := .bool s) (by simp [results, Tryz.results255, go_sem]) rfl ⟨by simp, HW.out⟩
end Go.Proofs.YtffegkjlgeblbaaGreatDoor.Ins
end

section
/- The document's Sane: may an instruction be: what may not be at once. -/
namespace Go.Proofs.YtffegkjlgeblbaaGreatDoor.Ins
open Go.RowKit Ints Typ
set_option maxRecDepth 100000
set_option maxHeartbeats 4000000

def okN (x : Int) : Bool := decide (0 ≤ x) && decide (x ≤ 4294967295)
end Go.Proofs.YtffegkjlgeblbaaGreatDoor.Ins
end

section
/- The document's Sane, at all arguments. -/
namespace Go.Proofs.YtffegkjlgeblbaaGreatDoor.Ins
open Go.RowKit Ints Typ
set_option maxRecDepth 100000
set_option maxHeartbeats 1000000

def saneI (x : Ins) : Bool :=
  if (kd x.op ≠ 4 ∧ 0 < x.L.length) ∨ (kd x.op ≠ 6 ∧ x.B ≠ 0) ∨ (kd x.op ≠ 8 ∧ kd x.op ≠ 9 ∧ x.K ≠ 0) then false
  else if kd x.op = 1 ∨ kd x.op = 7 ∨ kd x.op = 9 then x.A == 0
  else if kd x.op = 2 then x.A == 0 || x.A == 126 || x.A == 127
  else if kd x.op = 3 ∨ kd x.op = 5 then okN x.A
  else if kd x.op = 4 then okN x.A && x.L.all okN && decide ((x.L.length : Int) ≤ 64)
  else if kd x.op = 6 then okN x.A && okN x.B
  else if kd x.op = 8 then x.A == 0 && decide (x.K < 4294967296)
  else false
end Go.Proofs.YtffegkjlgeblbaaGreatDoor.Ins
end

section
/- The program's Sane, at all arguments. -/
namespace Go.Proofs.YtffegkjlgeblbaaGreatDoor.Ins
open Go.RowKit Ints Typ
set_option maxRecDepth 100000
set_option maxHeartbeats 1000000
set_option linter.unusedVariables false

theorem isres_core (a : Int) (w : World) (b1 b2 b3 : Bool) (h1 : (a == 0) = b1) (h2 : (a == 127) = b2) (h3 : (a == 126) = b3) : Calls Tryz.prog 274 #[.int .i64 a] w fun en w' => en = .returned (.bool (b1 || b2 || b3)) ∧ w = w' := by
  cases b1 with
  | true =>
    clear h2 h3
    go_enter Tryz.func274, Tryz.ntmps274
    go_wp2_with fail
    refine bodyPost_ret (v := .bool true) (by simp [results, Tryz.results274, go_sem]) rfl ⟨by simp, rfl⟩
  | false =>
    cases b2 with
    | true =>
      clear h3
      go_enter Tryz.func274, Tryz.ntmps274
      go_wp2_with fail
      refine bodyPost_ret (v := .bool true) (by simp [results, Tryz.results274, go_sem]) rfl ⟨by simp, rfl⟩
    | false =>
      go_enter Tryz.func274, Tryz.ntmps274
      go_wp2_with fail
      refine bodyPost_ret (v := .bool b3) (by simp [results, Tryz.results274, go_sem]) rfl ⟨by simp, rfl⟩
theorem isnum_core (a : Int) (w : World) (b1 b2 : Bool) (h1 : decide (0 ≤ a) = b1) (h2 : decide (a ≤ 4294967295) = b2) : Calls Tryz.prog 275 #[.int .i64 a] w fun en w' => en = .returned (.bool (b1 && b2)) ∧ w = w' := by
  cases b1 with
  | false =>
    clear h2
    go_enter Tryz.func275, Tryz.ntmps275
    go_wp2_with fail
    refine bodyPost_ret (v := .bool false) (by simp [results, Tryz.results275, go_sem]) rfl ⟨by simp, rfl⟩
  | true =>
    go_enter Tryz.func275, Tryz.ntmps275
    go_wp2_with fail
    refine bodyPost_ret (v := .bool b2) (by simp [results, Tryz.results275, go_sem]) rfl ⟨by simp, rfl⟩
theorem isnum_any (a : Int) (w : World) : Calls Tryz.prog 275 #[.int .i64 a] w fun en w' => en = .returned (.bool (okN a)) ∧ w = w' := isnum_core a w _ _ rfl rfl
theorem labs_long (P : Option Addr) (n c : Nat) (w : World) (h : decide ((64 : Int) < (n : Int)) = true) : Calls Tryz.prog 276 #[.slice P n c] w fun en w' => en = .returned (.bool false) ∧ w = w' := by
  go_enter Tryz.func276, Tryz.ntmps276
  go_wp2_with fail
  refine bodyPost_ret (v := .bool false) (by simp [results, Tryz.results276, go_sem]) rfl ⟨rfl, rfl⟩
theorem all_takeP {l : List Int} {k : Nat} (h : (l.take k).all okN = true) (hk : k < l.length) (hq : okN (l.getD k 0) = true) : (l.take (k + 1)).all okN = true := by
  have e : l.getD k 0 = l[k] := by rw [List.getD_eq_getElem?_getD, List.getElem?_eq_getElem hk]; rfl
  rw [e] at hq
  rw [List.take_succ_eq_append_getElem hk, List.all_append, h]
  simp [hq]
theorem not_all {l : List Int} {k : Nat} (hk : k < l.length) (hq : okN (l.getD k 0) = false) : l.all okN = false := by
  have e : l.getD k 0 = l[k] := by rw [List.getD_eq_getElem?_getD, List.getElem?_eq_getElem hk]; rfl
  rw [List.all_eq_false]
  exact ⟨l[k], List.getElem_mem hk, by rw [← e, hq]; simp⟩
theorem labs_loop (l : List Int) (P : Option Addr) (n c : Nat) (w : World) (hn : l.length = n) (h : decide ((64 : Int) < (n : Int)) = false) (hx : SlI w (.slice P n c) l) : Calls Tryz.prog 276 #[.slice P n c] w fun en w' => en = .returned (.bool (l.all okN)) ∧ w = w' := by
  have N1 := Lib.hid hn
  have HX := Lib.hid hx
  have hbig : n ≤ 64 := by have := h; simp at this; omega
  clear hn hx
  go_enter Tryz.func276, Tryz.ntmps276
  go_wp2_with fail
  go_loopw [10] (fun j' wr => ∃ k : Nat, j' = .int .i64 (k : Int) ∧ k ≤ n ∧ (l.take k).all okN = true ∧ w = wr) (fun j' _ => n - (intOf j').toNat)
  case atStart => exact ⟨0, rfl, Nat.zero_le _, rfl, rfl⟩
  case round =>
    obtain ⟨k, rfl, hk, ht, rfl⟩ := hrel
    have HT := Lib.hid ht
    clear ht
    by_cases hlt : k < n
    · obtain ⟨g1, p1, rfl, hc1⟩ := HX.out.at_ (j := k) (by rw [N1.out]; exact hlt)
      have hin1 : (0 : Int) ≤ (k : Int) := by omega
      have hin2 : (k : Int) < (n : Int) := by omega
      obtain ⟨u, hu⟩ : ∃ u, l.getD k 0 = u := ⟨_, rfl⟩
      rw [hu] at hc1
      have HU := Lib.hid hu
      clear hu
      cases hq : okN u with
      | false =>
        have HQ := Lib.hid (not_all (l := l) (k := k) (by rw [N1.out]; exact hlt) (by rw [HU.out]; exact hq))
        have HC : Hid (Calls Tryz.prog 275 #[.int .i64 u] w fun en w' => en = .returned (.bool false) ∧ w = w') := by have := isnum_any u w; rw [hq] at this; exact this
        clear hq
        go_wp2_with fail
        refine HC.out.mono ?_
        rintro en w1 ⟨rfl, rfl⟩
        go_wp2_with fail
        rw [HQ.out]
        exact bodyPost_ret (v := .bool false) (by simp [results, Tryz.results276, go_sem]) rfl ⟨rfl, rfl⟩
      | true =>
        have HQ := Lib.hid (all_takeP HT.out (by rw [N1.out]; exact hlt) (by rw [HU.out]; exact hq))
        have HC : Hid (Calls Tryz.prog 275 #[.int .i64 u] w fun en w' => en = .returned (.bool true) ∧ w = w') := by have := isnum_any u w; rw [hq] at this; exact this
        clear hq
        go_wp2_with fail
        refine HC.out.mono ?_
        rintro en w1 ⟨rfl, rfl⟩
        go_wp2_with fail
        go_roundw
        case rel => exact ⟨k + 1, by go_num, hlt, HQ.out, trivial⟩
        case measure => simp [intOf]; omega
    · obtain rfl : k = n := by omega
      have HQ : Hid (l.all okN = true) := by
        have h1 := HT.out
        rw [List.take_of_length_le (by rw [N1.out]; exact Nat.le_refl _)] at h1
        exact h1
      go_wp2_with fail
      rw [HQ.out]
      exact bodyPost_ret (v := .bool true) (by simp [results, Tryz.results276, go_sem]) rfl ⟨rfl, rfl⟩
theorem labs_any {l : List Int} {P : Option Addr} {n c : Nat} {w : World} (hx : SlI w (.slice P n c) l) : Calls Tryz.prog 276 #[.slice P n c] w fun en w' => en = .returned (.bool (l.all okN && decide ((l.length : Int) ≤ 64))) ∧ w = w' := by
  obtain ⟨_, _, he, _⟩ := id hx
  have hn : l.length = n := by injection he with _ h _; exact h.symm
  by_cases h : (64 : Int) < (n : Int)
  · rw [hn, decide_eq_false (by omega : ¬ (n : Int) ≤ 64), Bool.and_false]
    exact labs_long P n c w (decide_eq_true h)
  · rw [hn, decide_eq_true (by omega : (n : Int) ≤ 64), Bool.and_true]
    exact labs_loop l P n c w hn (decide_eq_false h) hx
theorem smI_kept (x : Ins) (A B K : Int) (L : List Int) : smI x ⟨x.op, A, B, K, L⟩ = decide (x.A = A ∧ x.B = B ∧ x.K = K ∧ x.L = L) := by
  unfold smI
  simp
def saneK (k A B K : Int) (L : List Int) : Bool :=
  if (k ≠ 4 ∧ 0 < L.length) ∨ (k ≠ 6 ∧ B ≠ 0) ∨ (k ≠ 8 ∧ k ≠ 9 ∧ K ≠ 0) then false
  else if k = 1 ∨ k = 7 ∨ k = 9 then A == 0
  else if k = 2 then A == 0 || A == 126 || A == 127
  else if k = 3 ∨ k = 5 then okN A
  else if k = 4 then okN A && L.all okN && decide ((L.length : Int) ≤ 64)
  else if k = 6 then okN A && okN B
  else if k = 8 then A == 0 && decide (K < 4294967296)
  else false
theorem saneI_eq (x : Ins) : saneI x = saneK (kd x.op) x.A x.B x.K x.L := rfl
theorem saneK_0 (A B K : Int) (L : List Int) : saneK 0 A B K L = false := by unfold saneK; split <;> simp
theorem saneK_1 (A B K : Int) (L : List Int) : saneK 1 A B K L = decide (A = 0 ∧ B = 0 ∧ K = 0 ∧ L = []) := by
  cases L <;> by_cases hA : A = 0 <;> by_cases hB : B = 0 <;> by_cases hK : K = 0 <;> simp [saneK, hA, hB, hK]
theorem saneK_7 (A B K : Int) (L : List Int) : saneK 7 A B K L = decide (A = 0 ∧ B = 0 ∧ K = 0 ∧ L = []) := by
  cases L <;> by_cases hA : A = 0 <;> by_cases hB : B = 0 <;> by_cases hK : K = 0 <;> simp [saneK, hA, hB, hK]
theorem saneK_2 (A B K : Int) (L : List Int) : saneK 2 A B K L = ((A == 0 || A == 127 || A == 126) && decide (A = A ∧ B = 0 ∧ K = 0 ∧ L = [])) := by
  have e : (A == 0 || A == 126 || A == 127) = (A == 0 || A == 127 || A == 126) := Bool.or_right_comm _ _ _
  cases L <;> by_cases hB : B = 0 <;> by_cases hK : K = 0 <;> simp [saneK, hB, hK, e]
theorem saneK_3 (A B K : Int) (L : List Int) : saneK 3 A B K L = (okN A && decide (A = A ∧ B = 0 ∧ K = 0 ∧ L = [])) := by
  cases L <;> by_cases hB : B = 0 <;> by_cases hK : K = 0 <;> simp [saneK, hB, hK]
theorem saneK_5 (A B K : Int) (L : List Int) : saneK 5 A B K L = (okN A && decide (A = A ∧ B = 0 ∧ K = 0 ∧ L = [])) := by
  cases L <;> by_cases hB : B = 0 <;> by_cases hK : K = 0 <;> simp [saneK, hB, hK]
theorem saneK_4 (A B K : Int) (L : List Int) : saneK 4 A B K L = ((L.all okN && decide ((L.length : Int) ≤ 64)) && okN A && decide (A = A ∧ B = 0 ∧ K = 0 ∧ L = L)) := by
  unfold saneK
  generalize L.all okN = p
  generalize decide ((L.length : Int) ≤ 64) = q
  generalize okN A = r
  by_cases hB : B = 0 <;> by_cases hK : K = 0 <;> cases p <;> cases q <;> cases r <;> simp [hB, hK]
theorem saneK_6 (A B K : Int) (L : List Int) : saneK 6 A B K L = (okN A && okN B && decide (A = A ∧ B = B ∧ K = 0 ∧ L = [])) := by
  cases L <;> by_cases hK : K = 0 <;> simp [saneK, hK]
theorem saneK_8 (A B K : Int) (L : List Int) : saneK 8 A B K L = (fitT 127 K && decide (A = 0 ∧ B = 0 ∧ K = K ∧ L = [])) := by
  cases L <;> by_cases hA : A = 0 <;> by_cases hB : B = 0 <;> simp [saneK, fitT, hA, hB]
theorem saneK_9 (A B K : Int) (L : List Int) : saneK 9 A B K L = (fitT 126 K && decide (A = 0 ∧ B = 0 ∧ K = K ∧ L = [])) := by
  cases L <;> by_cases hA : A = 0 <;> by_cases hB : B = 0 <;> simp [saneK, fitT, hA, hB]
theorem psane_any {x : Ins} {o : Value} {w : World} (hx : SlI w o x.L) (hu : u64R x.K) (hT : KTab w) : Calls Tryz.prog 255 #[iv x o] w fun en w' => en = .returned (.bool (saneI x)) ∧ Below w.heap.size w w' := by
  obtain ⟨P, c, ho, _⟩ := id hx
  subst ho
  have hr := kd_range x.op
  have hK : ∀ k : Int, kd x.op = k → ∀ W, Below w.heap.size w W → Calls Tryz.prog 266 #[.int .i64 x.op] W fun en w' => en = .returned (.int .i64 k) ∧ Below W.heap.size W w' := fun k hk W hW => by
    have := kind_told x.op W (hT.keep hW)
    unfold KdTold at this
    rwa [hk] at this
  have hS : ∀ (A B K : Int) (L : List Int) (p : Value), (∀ W, Below w.heap.size w W → SlI W p L) → ∀ W, Below w.heap.size w W → Calls Tryz.prog 108 #[.agg #[.int .i64 x.op, .int .i64 x.A, .int .i64 x.B, .int .u64 x.K, .slice P x.L.length c], .agg #[.int .i64 x.op, .int .i64 A, .int .i64 B, .int .u64 K, p]] W fun en w' => en = .returned (.bool (smI x ⟨x.op, A, B, K, L⟩)) ∧ Below W.heap.size W w' := fun A B K L p hp W hW => psame_any (y := ⟨x.op, A, B, K, L⟩) (hx.keep hW) (hp W hW)
  have hN := fun W (_ : Below w.heap.size w W) => SlI.nil W
  have hA : ∀ v W, Below w.heap.size w W → Calls Tryz.prog 275 #[.int .i64 v] W fun en w' => en = .returned (.bool (okN v)) ∧ Below W.heap.size W w' := fun v W _ => (isnum_any v W).mono fun _ _ ⟨k1, k2⟩ => ⟨k1, k2 ▸ Below.refl _ _⟩
  have hF : ∀ t W, Below w.heap.size w W → Calls Tryz.prog 277 #[.int .u8 t, .int .u64 x.K] W fun en w' => en = .returned (.bool (fitT t x.K)) ∧ Below W.heap.size W w' := fun t W _ => (fits_any t x.K W hu).mono fun _ _ ⟨k1, k2⟩ => ⟨k1, k2 ▸ Below.refl _ _⟩
  unfold iv
  have hk : kd x.op = 0 ∨ kd x.op = 1 ∨ kd x.op = 2 ∨ kd x.op = 3 ∨ kd x.op = 4 ∨ kd x.op = 5 ∨ kd x.op = 6 ∨ kd x.op = 7 ∨ kd x.op = 8 ∨ kd x.op = 9 := by omega
  rcases hk with hk | hk | hk | hk | hk | hk | hk | hk | hk | hk
  · have e1 : saneI x = false := by rw [saneI_eq, hk, saneK_0]
    rw [e1]
    exact psane_0 _ _ _ _ P _ c w false (hK 0 hk)
  · have e1 : saneI x = smI x ⟨x.op, 0, 0, 0, []⟩ := by rw [saneI_eq, hk, smI_kept, saneK_1]
    rw [e1]
    exact psane_1 _ _ _ _ P _ c w _ (hK 1 hk) (hS _ _ _ _ _ hN)
  · have e1 : saneI x = ((x.A == 0 || x.A == 127 || x.A == 126) && smI x ⟨x.op, x.A, 0, 0, []⟩) := by rw [saneI_eq, hk, smI_kept, saneK_2]
    rw [e1]
    exact psane_2 _ _ _ _ P _ c w _ _ (hK 2 hk) (fun W _ => (isres_core x.A W _ _ _ rfl rfl rfl).mono fun _ _ ⟨k1, k2⟩ => ⟨k1, k2 ▸ Below.refl _ _⟩) (hS _ _ _ _ _ hN)
  · have e1 : saneI x = (okN x.A && smI x ⟨x.op, x.A, 0, 0, []⟩) := by rw [saneI_eq, hk, smI_kept, saneK_3]
    rw [e1]
    exact psane_3 _ _ _ _ P _ c w _ _ (hK 3 hk) (hA _) (hS _ _ _ _ _ hN)
  · have e1 : saneI x = ((x.L.all okN && decide ((x.L.length : Int) ≤ 64)) && okN x.A && smI x ⟨x.op, x.A, 0, 0, x.L⟩) := by rw [saneI_eq, hk, smI_kept, saneK_4]
    rw [e1]
    exact psane_4 _ _ _ _ P _ c w _ _ _ (hK 4 hk) (fun W hW => (labs_any (hx.keep hW)).mono fun _ _ ⟨k1, k2⟩ => ⟨k1, k2 ▸ Below.refl _ _⟩) (hA _) (hS _ _ _ _ _ fun W hW => hx.keep hW)
  · have e1 : saneI x = (okN x.A && smI x ⟨x.op, x.A, 0, 0, []⟩) := by rw [saneI_eq, hk, smI_kept, saneK_5]
    rw [e1]
    exact psane_5 _ _ _ _ P _ c w _ _ (hK 5 hk) (hA _) (hS _ _ _ _ _ hN)
  · have e1 : saneI x = (okN x.A && okN x.B && smI x ⟨x.op, x.A, x.B, 0, []⟩) := by rw [saneI_eq, hk, smI_kept, saneK_6]
    rw [e1]
    exact psane_6 _ _ _ _ P _ c w _ _ _ (hK 6 hk) (hA _) (hA _) (hS _ _ _ _ _ hN)
  · have e1 : saneI x = smI x ⟨x.op, 0, 0, 0, []⟩ := by rw [saneI_eq, hk, smI_kept, saneK_7]
    rw [e1]
    exact psane_7 _ _ _ _ P _ c w _ (hK 7 hk) (hS _ _ _ _ _ hN)
  · have e1 : saneI x = (fitT 127 x.K && smI x ⟨x.op, 0, 0, x.K, []⟩) := by rw [saneI_eq, hk, smI_kept, saneK_8]
    rw [e1]
    exact psane_8 _ _ _ _ P _ c w _ _ (hK 8 hk) (hF _) (hS _ _ _ _ _ hN)
  · have e1 : saneI x = (fitT 126 x.K && smI x ⟨x.op, 0, 0, x.K, []⟩) := by rw [saneI_eq, hk, smI_kept, saneK_9]
    rw [e1]
    exact psane_9 _ _ _ _ P _ c w _ _ (hK 9 hk) (hF _) (hS _ _ _ _ _ hN)
end Go.Proofs.YtffegkjlgeblbaaGreatDoor.Ins
end
