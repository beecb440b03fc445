/- The document's Sane: may an instruction be: without labels. -/
import Derived.Test.YtmjimijolfjhmaaDoorInsSaneA
namespace Go.Proofs.YtmjimijolfjhmaaDoor.Ins
open Go.RowKit Ints Typ
set_option maxRecDepth 100000
set_option maxHeartbeats 4000000

theorem rsane_0 (op A B K : Int) (P : Option Addr) (c : Nat) (w : World) (bA bA2 : Bool)
    (hK : ∀ W, Calls Tryd.prog 22 #[.int .i64 op] W fun en w' => en = .returned (.int .i64 0) ∧ Below W.heap.size W w')
    (q1 : decide (0 ≤ A) = bA) (q2 : decide (A ≤ 4294967295) = bA2) (qB : (B != 0) = false) (qK : (K != 0) = false) :
    Calls Tryd.prog 19 #[.agg #[.int .i64 op, .int .i64 A, .int .i64 B, .int .u64 K, .slice P 0 c]] w fun en w' => en = .returned (.bool false) ∧ Below w.heap.size w w' := by
  cases bA with
  | true =>
    have HK := Lib.hid hK
    have HA1 := Lib.hid ((Below.refl w.heap.size w).alloc (Nat.le_refl _) (.cells #[.int .i64 op, .int .i64 A, .int .i64 B, .int .u64 K, .slice P 0 c] 26))
    have HI := Lib.hid (InAt.at_ w w.heap.size op A B K (.slice P 0 c) 26 rfl)
    clear hK
    go_enter Tryd.func19, Tryd.ntmps19
    go_wp2_with fail
    refine (HK.out _).mono ?_
    rintro en w2 ⟨rfl, hb2⟩
    have HI := Lib.hid (HI.out.keep hb2)
    have HW := Lib.hid (HA1.out.trans (hb2.mono HA1.out.size))
    clear hb2
    obtain ⟨i0, ic0, ic1, ic2, ic3, ic4, if0, if1, if2, if3, if4⟩ := HI.out
    go_wp2_with fail
    go_loopw [4, 5] (fun u' j' wr => u' = .bool bA2 ∧ j' = .int .i64 0 ∧ wr = w2) (fun _ _ _ => 0)
    case atStart => exact ⟨rfl, rfl, rfl⟩
    case round =>
      obtain ⟨rfl, rfl, rfl⟩ := hrel
      go_wp2_with fail
      all_goals exact bodyPost_ret (v := .bool false) (by simp [results, Tryd.results19, go_sem]) rfl ⟨rfl, HW.out⟩
  | false =>
    have HK := Lib.hid hK
    have HA1 := Lib.hid ((Below.refl w.heap.size w).alloc (Nat.le_refl _) (.cells #[.int .i64 op, .int .i64 A, .int .i64 B, .int .u64 K, .slice P 0 c] 26))
    have HI := Lib.hid (InAt.at_ w w.heap.size op A B K (.slice P 0 c) 26 rfl)
    clear hK
    go_enter Tryd.func19, Tryd.ntmps19
    go_wp2_with fail
    refine (HK.out _).mono ?_
    rintro en w2 ⟨rfl, hb2⟩
    have HI := Lib.hid (HI.out.keep hb2)
    have HW := Lib.hid (HA1.out.trans (hb2.mono HA1.out.size))
    clear hb2
    obtain ⟨i0, ic0, ic1, ic2, ic3, ic4, if0, if1, if2, if3, if4⟩ := HI.out
    go_wp2_with fail
    go_loopw [4, 5] (fun u' j' wr => u' = .bool false ∧ j' = .int .i64 0 ∧ wr = w2) (fun _ _ _ => 0)
    case atStart => exact ⟨rfl, rfl, rfl⟩
    case round =>
      obtain ⟨rfl, rfl, rfl⟩ := hrel
      go_wp2_with fail
      all_goals exact bodyPost_ret (v := .bool false) (by simp [results, Tryd.results19, go_sem]) rfl ⟨rfl, HW.out⟩
theorem rsane_1 (op A B K : Int) (P : Option Addr) (c : Nat) (w : World) (bA bA2 z : Bool)
    (hK : ∀ W, Calls Tryd.prog 22 #[.int .i64 op] W fun en w' => en = .returned (.int .i64 1) ∧ Below W.heap.size W w')
    (q1 : decide (0 ≤ A) = bA) (q2 : decide (A ≤ 4294967295) = bA2) (qB : (B != 0) = false) (qK : (K != 0) = false) (qz : (A == 0) = z) :
    Calls Tryd.prog 19 #[.agg #[.int .i64 op, .int .i64 A, .int .i64 B, .int .u64 K, .slice P 0 c]] w fun en w' => en = .returned (.bool z) ∧ Below w.heap.size w w' := by
  cases bA with
  | true =>
    have HK := Lib.hid hK
    have HA1 := Lib.hid ((Below.refl w.heap.size w).alloc (Nat.le_refl _) (.cells #[.int .i64 op, .int .i64 A, .int .i64 B, .int .u64 K, .slice P 0 c] 26))
    have HI := Lib.hid (InAt.at_ w w.heap.size op A B K (.slice P 0 c) 26 rfl)
    clear hK
    go_enter Tryd.func19, Tryd.ntmps19
    go_wp2_with fail
    refine (HK.out _).mono ?_
    rintro en w2 ⟨rfl, hb2⟩
    have HI := Lib.hid (HI.out.keep hb2)
    have HW := Lib.hid (HA1.out.trans (hb2.mono HA1.out.size))
    clear hb2
    obtain ⟨i0, ic0, ic1, ic2, ic3, ic4, if0, if1, if2, if3, if4⟩ := HI.out
    go_wp2_with fail
    go_loopw [4, 5] (fun u' j' wr => u' = .bool bA2 ∧ j' = .int .i64 0 ∧ wr = w2) (fun _ _ _ => 0)
    case atStart => exact ⟨rfl, rfl, rfl⟩
    case round =>
      obtain ⟨rfl, rfl, rfl⟩ := hrel
      go_wp2_with fail
      all_goals exact bodyPost_ret (v := .bool _) (by simp [results, Tryd.results19, go_sem]) rfl ⟨rfl, HW.out⟩
  | false =>
    have HK := Lib.hid hK
    have HA1 := Lib.hid ((Below.refl w.heap.size w).alloc (Nat.le_refl _) (.cells #[.int .i64 op, .int .i64 A, .int .i64 B, .int .u64 K, .slice P 0 c] 26))
    have HI := Lib.hid (InAt.at_ w w.heap.size op A B K (.slice P 0 c) 26 rfl)
    clear hK
    go_enter Tryd.func19, Tryd.ntmps19
    go_wp2_with fail
    refine (HK.out _).mono ?_
    rintro en w2 ⟨rfl, hb2⟩
    have HI := Lib.hid (HI.out.keep hb2)
    have HW := Lib.hid (HA1.out.trans (hb2.mono HA1.out.size))
    clear hb2
    obtain ⟨i0, ic0, ic1, ic2, ic3, ic4, if0, if1, if2, if3, if4⟩ := HI.out
    go_wp2_with fail
    go_loopw [4, 5] (fun u' j' wr => u' = .bool false ∧ j' = .int .i64 0 ∧ wr = w2) (fun _ _ _ => 0)
    case atStart => exact ⟨rfl, rfl, rfl⟩
    case round =>
      obtain ⟨rfl, rfl, rfl⟩ := hrel
      go_wp2_with fail
      all_goals exact bodyPost_ret (v := .bool _) (by simp [results, Tryd.results19, go_sem]) rfl ⟨rfl, HW.out⟩
theorem rsane_7 (op A B K : Int) (P : Option Addr) (c : Nat) (w : World) (bA bA2 z : Bool)
    (hK : ∀ W, Calls Tryd.prog 22 #[.int .i64 op] W fun en w' => en = .returned (.int .i64 7) ∧ Below W.heap.size W w')
    (q1 : decide (0 ≤ A) = bA) (q2 : decide (A ≤ 4294967295) = bA2) (qB : (B != 0) = false) (qK : (K != 0) = false) (qz : (A == 0) = z) :
    Calls Tryd.prog 19 #[.agg #[.int .i64 op, .int .i64 A, .int .i64 B, .int .u64 K, .slice P 0 c]] w fun en w' => en = .returned (.bool z) ∧ Below w.heap.size w w' := by
  cases bA with
  | true =>
    have HK := Lib.hid hK
    have HA1 := Lib.hid ((Below.refl w.heap.size w).alloc (Nat.le_refl _) (.cells #[.int .i64 op, .int .i64 A, .int .i64 B, .int .u64 K, .slice P 0 c] 26))
    have HI := Lib.hid (InAt.at_ w w.heap.size op A B K (.slice P 0 c) 26 rfl)
    clear hK
    go_enter Tryd.func19, Tryd.ntmps19
    go_wp2_with fail
    refine (HK.out _).mono ?_
    rintro en w2 ⟨rfl, hb2⟩
    have HI := Lib.hid (HI.out.keep hb2)
    have HW := Lib.hid (HA1.out.trans (hb2.mono HA1.out.size))
    clear hb2
    obtain ⟨i0, ic0, ic1, ic2, ic3, ic4, if0, if1, if2, if3, if4⟩ := HI.out
    go_wp2_with fail
    go_loopw [4, 5] (fun u' j' wr => u' = .bool bA2 ∧ j' = .int .i64 0 ∧ wr = w2) (fun _ _ _ => 0)
    case atStart => exact ⟨rfl, rfl, rfl⟩
    case round =>
      obtain ⟨rfl, rfl, rfl⟩ := hrel
      go_wp2_with fail
      all_goals exact bodyPost_ret (v := .bool _) (by simp [results, Tryd.results19, go_sem]) rfl ⟨rfl, HW.out⟩
  | false =>
    have HK := Lib.hid hK
    have HA1 := Lib.hid ((Below.refl w.heap.size w).alloc (Nat.le_refl _) (.cells #[.int .i64 op, .int .i64 A, .int .i64 B, .int .u64 K, .slice P 0 c] 26))
    have HI := Lib.hid (InAt.at_ w w.heap.size op A B K (.slice P 0 c) 26 rfl)
    clear hK
    go_enter Tryd.func19, Tryd.ntmps19
    go_wp2_with fail
    refine (HK.out _).mono ?_
    rintro en w2 ⟨rfl, hb2⟩
    have HI := Lib.hid (HI.out.keep hb2)
    have HW := Lib.hid (HA1.out.trans (hb2.mono HA1.out.size))
    clear hb2
    obtain ⟨i0, ic0, ic1, ic2, ic3, ic4, if0, if1, if2, if3, if4⟩ := HI.out
    go_wp2_with fail
    go_loopw [4, 5] (fun u' j' wr => u' = .bool false ∧ j' = .int .i64 0 ∧ wr = w2) (fun _ _ _ => 0)
    case atStart => exact ⟨rfl, rfl, rfl⟩
    case round =>
      obtain ⟨rfl, rfl, rfl⟩ := hrel
      go_wp2_with fail
      all_goals exact bodyPost_ret (v := .bool _) (by simp [results, Tryd.results19, go_sem]) rfl ⟨rfl, HW.out⟩
theorem rsane_9 (op A B K : Int) (P : Option Addr) (c : Nat) (w : World) (bA bA2 z : Bool)
    (hK : ∀ W, Calls Tryd.prog 22 #[.int .i64 op] W fun en w' => en = .returned (.int .i64 9) ∧ Below W.heap.size W w')
    (q1 : decide (0 ≤ A) = bA) (q2 : decide (A ≤ 4294967295) = bA2) (qB : (B != 0) = false) (qz : (A == 0) = z) :
    Calls Tryd.prog 19 #[.agg #[.int .i64 op, .int .i64 A, .int .i64 B, .int .u64 K, .slice P 0 c]] w fun en w' => en = .returned (.bool z) ∧ Below w.heap.size w w' := by
  cases bA with
  | true =>
    have HK := Lib.hid hK
    have HA1 := Lib.hid ((Below.refl w.heap.size w).alloc (Nat.le_refl _) (.cells #[.int .i64 op, .int .i64 A, .int .i64 B, .int .u64 K, .slice P 0 c] 26))
    have HI := Lib.hid (InAt.at_ w w.heap.size op A B K (.slice P 0 c) 26 rfl)
    clear hK
    go_enter Tryd.func19, Tryd.ntmps19
    go_wp2_with fail
    refine (HK.out _).mono ?_
    rintro en w2 ⟨rfl, hb2⟩
    have HI := Lib.hid (HI.out.keep hb2)
    have HW := Lib.hid (HA1.out.trans (hb2.mono HA1.out.size))
    clear hb2
    obtain ⟨i0, ic0, ic1, ic2, ic3, ic4, if0, if1, if2, if3, if4⟩ := HI.out
    go_wp2_with fail
    go_loopw [4, 5] (fun u' j' wr => u' = .bool bA2 ∧ j' = .int .i64 0 ∧ wr = w2) (fun _ _ _ => 0)
    case atStart => exact ⟨rfl, rfl, rfl⟩
    case round =>
      obtain ⟨rfl, rfl, rfl⟩ := hrel
      go_wp2_with fail
      all_goals exact bodyPost_ret (v := .bool _) (by simp [results, Tryd.results19, go_sem]) rfl ⟨rfl, HW.out⟩
  | false =>
    have HK := Lib.hid hK
    have HA1 := Lib.hid ((Below.refl w.heap.size w).alloc (Nat.le_refl _) (.cells #[.int .i64 op, .int .i64 A, .int .i64 B, .int .u64 K, .slice P 0 c] 26))
    have HI := Lib.hid (InAt.at_ w w.heap.size op A B K (.slice P 0 c) 26 rfl)
    clear hK
    go_enter Tryd.func19, Tryd.ntmps19
    go_wp2_with fail
    refine (HK.out _).mono ?_
    rintro en w2 ⟨rfl, hb2⟩
    have HI := Lib.hid (HI.out.keep hb2)
    have HW := Lib.hid (HA1.out.trans (hb2.mono HA1.out.size))
    clear hb2
    obtain ⟨i0, ic0, ic1, ic2, ic3, ic4, if0, if1, if2, if3, if4⟩ := HI.out
    go_wp2_with fail
    go_loopw [4, 5] (fun u' j' wr => u' = .bool false ∧ j' = .int .i64 0 ∧ wr = w2) (fun _ _ _ => 0)
    case atStart => exact ⟨rfl, rfl, rfl⟩
    case round =>
      obtain ⟨rfl, rfl, rfl⟩ := hrel
      go_wp2_with fail
      all_goals exact bodyPost_ret (v := .bool _) (by simp [results, Tryd.results19, go_sem]) rfl ⟨rfl, HW.out⟩
theorem rsane_3 (op A B K : Int) (P : Option Addr) (c : Nat) (w : World) (bA bA2 : Bool)
    (hK : ∀ W, Calls Tryd.prog 22 #[.int .i64 op] W fun en w' => en = .returned (.int .i64 3) ∧ Below W.heap.size W w')
    (q1 : decide (0 ≤ A) = bA) (q2 : decide (A ≤ 4294967295) = bA2) (qB : (B != 0) = false) (qK : (K != 0) = false) :
    Calls Tryd.prog 19 #[.agg #[.int .i64 op, .int .i64 A, .int .i64 B, .int .u64 K, .slice P 0 c]] w fun en w' => en = .returned (.bool (bA && bA2)) ∧ Below w.heap.size w w' := by
  cases bA with
  | true =>
    have HK := Lib.hid hK
    have HA1 := Lib.hid ((Below.refl w.heap.size w).alloc (Nat.le_refl _) (.cells #[.int .i64 op, .int .i64 A, .int .i64 B, .int .u64 K, .slice P 0 c] 26))
    have HI := Lib.hid (InAt.at_ w w.heap.size op A B K (.slice P 0 c) 26 rfl)
    clear hK
    go_enter Tryd.func19, Tryd.ntmps19
    go_wp2_with fail
    refine (HK.out _).mono ?_
    rintro en w2 ⟨rfl, hb2⟩
    have HI := Lib.hid (HI.out.keep hb2)
    have HW := Lib.hid (HA1.out.trans (hb2.mono HA1.out.size))
    clear hb2
    obtain ⟨i0, ic0, ic1, ic2, ic3, ic4, if0, if1, if2, if3, if4⟩ := HI.out
    go_wp2_with fail
    go_loopw [4, 5] (fun u' j' wr => u' = .bool bA2 ∧ j' = .int .i64 0 ∧ wr = w2) (fun _ _ _ => 0)
    case atStart => exact ⟨rfl, rfl, rfl⟩
    case round =>
      obtain ⟨rfl, rfl, rfl⟩ := hrel
      go_wp2_with fail
      all_goals exact bodyPost_ret (v := .bool (true && bA2)) (by simp [results, Tryd.results19, go_sem]) rfl ⟨rfl, HW.out⟩
  | false =>
    have HK := Lib.hid hK
    have HA1 := Lib.hid ((Below.refl w.heap.size w).alloc (Nat.le_refl _) (.cells #[.int .i64 op, .int .i64 A, .int .i64 B, .int .u64 K, .slice P 0 c] 26))
    have HI := Lib.hid (InAt.at_ w w.heap.size op A B K (.slice P 0 c) 26 rfl)
    clear hK
    go_enter Tryd.func19, Tryd.ntmps19
    go_wp2_with fail
    refine (HK.out _).mono ?_
    rintro en w2 ⟨rfl, hb2⟩
    have HI := Lib.hid (HI.out.keep hb2)
    have HW := Lib.hid (HA1.out.trans (hb2.mono HA1.out.size))
    clear hb2
    obtain ⟨i0, ic0, ic1, ic2, ic3, ic4, if0, if1, if2, if3, if4⟩ := HI.out
    go_wp2_with fail
    go_loopw [4, 5] (fun u' j' wr => u' = .bool false ∧ j' = .int .i64 0 ∧ wr = w2) (fun _ _ _ => 0)
    case atStart => exact ⟨rfl, rfl, rfl⟩
    case round =>
      obtain ⟨rfl, rfl, rfl⟩ := hrel
      go_wp2_with fail
      all_goals exact bodyPost_ret (v := .bool (false && bA2)) (by simp [results, Tryd.results19, go_sem]) rfl ⟨rfl, HW.out⟩
theorem rsane_5 (op A B K : Int) (P : Option Addr) (c : Nat) (w : World) (bA bA2 : Bool)
    (hK : ∀ W, Calls Tryd.prog 22 #[.int .i64 op] W fun en w' => en = .returned (.int .i64 5) ∧ Below W.heap.size W w')
    (q1 : decide (0 ≤ A) = bA) (q2 : decide (A ≤ 4294967295) = bA2) (qB : (B != 0) = false) (qK : (K != 0) = false) :
    Calls Tryd.prog 19 #[.agg #[.int .i64 op, .int .i64 A, .int .i64 B, .int .u64 K, .slice P 0 c]] w fun en w' => en = .returned (.bool (bA && bA2)) ∧ Below w.heap.size w w' := by
  cases bA with
  | true =>
    have HK := Lib.hid hK
    have HA1 := Lib.hid ((Below.refl w.heap.size w).alloc (Nat.le_refl _) (.cells #[.int .i64 op, .int .i64 A, .int .i64 B, .int .u64 K, .slice P 0 c] 26))
    have HI := Lib.hid (InAt.at_ w w.heap.size op A B K (.slice P 0 c) 26 rfl)
    clear hK
    go_enter Tryd.func19, Tryd.ntmps19
    go_wp2_with fail
    refine (HK.out _).mono ?_
    rintro en w2 ⟨rfl, hb2⟩
    have HI := Lib.hid (HI.out.keep hb2)
    have HW := Lib.hid (HA1.out.trans (hb2.mono HA1.out.size))
    clear hb2
    obtain ⟨i0, ic0, ic1, ic2, ic3, ic4, if0, if1, if2, if3, if4⟩ := HI.out
    go_wp2_with fail
    go_loopw [4, 5] (fun u' j' wr => u' = .bool bA2 ∧ j' = .int .i64 0 ∧ wr = w2) (fun _ _ _ => 0)
    case atStart => exact ⟨rfl, rfl, rfl⟩
    case round =>
      obtain ⟨rfl, rfl, rfl⟩ := hrel
      go_wp2_with fail
      all_goals exact bodyPost_ret (v := .bool (true && bA2)) (by simp [results, Tryd.results19, go_sem]) rfl ⟨rfl, HW.out⟩
  | false =>
    have HK := Lib.hid hK
    have HA1 := Lib.hid ((Below.refl w.heap.size w).alloc (Nat.le_refl _) (.cells #[.int .i64 op, .int .i64 A, .int .i64 B, .int .u64 K, .slice P 0 c] 26))
    have HI := Lib.hid (InAt.at_ w w.heap.size op A B K (.slice P 0 c) 26 rfl)
    clear hK
    go_enter Tryd.func19, Tryd.ntmps19
    go_wp2_with fail
    refine (HK.out _).mono ?_
    rintro en w2 ⟨rfl, hb2⟩
    have HI := Lib.hid (HI.out.keep hb2)
    have HW := Lib.hid (HA1.out.trans (hb2.mono HA1.out.size))
    clear hb2
    obtain ⟨i0, ic0, ic1, ic2, ic3, ic4, if0, if1, if2, if3, if4⟩ := HI.out
    go_wp2_with fail
    go_loopw [4, 5] (fun u' j' wr => u' = .bool false ∧ j' = .int .i64 0 ∧ wr = w2) (fun _ _ _ => 0)
    case atStart => exact ⟨rfl, rfl, rfl⟩
    case round =>
      obtain ⟨rfl, rfl, rfl⟩ := hrel
      go_wp2_with fail
      all_goals exact bodyPost_ret (v := .bool (false && bA2)) (by simp [results, Tryd.results19, go_sem]) rfl ⟨rfl, HW.out⟩
theorem rsane_2 (op A B K : Int) (P : Option Addr) (c : Nat) (w : World) (bA bA2 z0 z1 z2 : Bool)
    (hK : ∀ W, Calls Tryd.prog 22 #[.int .i64 op] W fun en w' => en = .returned (.int .i64 2) ∧ Below W.heap.size W w')
    (q1 : decide (0 ≤ A) = bA) (q2 : decide (A ≤ 4294967295) = bA2) (qB : (B != 0) = false) (qK : (K != 0) = false) (qz0 : (A == 0) = z0) (qz1 : (A == 126) = z1) (qz2 : (A == 127) = z2) :
    Calls Tryd.prog 19 #[.agg #[.int .i64 op, .int .i64 A, .int .i64 B, .int .u64 K, .slice P 0 c]] w fun en w' => en = .returned (.bool (z0 || z1 || z2)) ∧ Below w.heap.size w w' := by
  cases bA with
  | true =>
    have HK := Lib.hid hK
    have HA1 := Lib.hid ((Below.refl w.heap.size w).alloc (Nat.le_refl _) (.cells #[.int .i64 op, .int .i64 A, .int .i64 B, .int .u64 K, .slice P 0 c] 26))
    have HI := Lib.hid (InAt.at_ w w.heap.size op A B K (.slice P 0 c) 26 rfl)
    clear hK
    go_enter Tryd.func19, Tryd.ntmps19
    go_wp2_with fail
    refine (HK.out _).mono ?_
    rintro en w2 ⟨rfl, hb2⟩
    have HI := Lib.hid (HI.out.keep hb2)
    have HW := Lib.hid (HA1.out.trans (hb2.mono HA1.out.size))
    clear hb2
    obtain ⟨i0, ic0, ic1, ic2, ic3, ic4, if0, if1, if2, if3, if4⟩ := HI.out
    go_wp2_with fail
    go_loopw [4, 5] (fun u' j' wr => u' = .bool bA2 ∧ j' = .int .i64 0 ∧ wr = w2) (fun _ _ _ => 0)
    case atStart => exact ⟨rfl, rfl, rfl⟩
    case round =>
      obtain ⟨rfl, rfl, rfl⟩ := hrel
      cases z0 <;> cases z1 <;> cases z2 <;> (
        go_wp2_with fail
        all_goals exact bodyPost_ret (v := .bool _) (by simp [results, Tryd.results19, go_sem]) rfl ⟨rfl, HW.out⟩)
  | false =>
    have HK := Lib.hid hK
    have HA1 := Lib.hid ((Below.refl w.heap.size w).alloc (Nat.le_refl _) (.cells #[.int .i64 op, .int .i64 A, .int .i64 B, .int .u64 K, .slice P 0 c] 26))
    have HI := Lib.hid (InAt.at_ w w.heap.size op A B K (.slice P 0 c) 26 rfl)
    clear hK
    go_enter Tryd.func19, Tryd.ntmps19
    go_wp2_with fail
    refine (HK.out _).mono ?_
    rintro en w2 ⟨rfl, hb2⟩
    have HI := Lib.hid (HI.out.keep hb2)
    have HW := Lib.hid (HA1.out.trans (hb2.mono HA1.out.size))
    clear hb2
    obtain ⟨i0, ic0, ic1, ic2, ic3, ic4, if0, if1, if2, if3, if4⟩ := HI.out
    go_wp2_with fail
    go_loopw [4, 5] (fun u' j' wr => u' = .bool false ∧ j' = .int .i64 0 ∧ wr = w2) (fun _ _ _ => 0)
    case atStart => exact ⟨rfl, rfl, rfl⟩
    case round =>
      obtain ⟨rfl, rfl, rfl⟩ := hrel
      cases z0 <;> cases z1 <;> cases z2 <;> (
        go_wp2_with fail
        all_goals exact bodyPost_ret (v := .bool _) (by simp [results, Tryd.results19, go_sem]) rfl ⟨rfl, HW.out⟩)
theorem rsane_6 (op A B K : Int) (P : Option Addr) (c : Nat) (w : World) (bA bA2 z0 z1 : Bool)
    (hK : ∀ W, Calls Tryd.prog 22 #[.int .i64 op] W fun en w' => en = .returned (.int .i64 6) ∧ Below W.heap.size W w')
    (q1 : decide (0 ≤ A) = bA) (q2 : decide (A ≤ 4294967295) = bA2) (qK : (K != 0) = false) (qz0 : decide (0 ≤ B) = z0) (qz1 : decide (B ≤ 4294967295) = z1) :
    Calls Tryd.prog 19 #[.agg #[.int .i64 op, .int .i64 A, .int .i64 B, .int .u64 K, .slice P 0 c]] w fun en w' => en = .returned (.bool (bA && bA2 && (z0 && z1))) ∧ Below w.heap.size w w' := by
  cases bA with
  | true =>
    have HK := Lib.hid hK
    have HA1 := Lib.hid ((Below.refl w.heap.size w).alloc (Nat.le_refl _) (.cells #[.int .i64 op, .int .i64 A, .int .i64 B, .int .u64 K, .slice P 0 c] 26))
    have HI := Lib.hid (InAt.at_ w w.heap.size op A B K (.slice P 0 c) 26 rfl)
    clear hK
    go_enter Tryd.func19, Tryd.ntmps19
    go_wp2_with fail
    refine (HK.out _).mono ?_
    rintro en w2 ⟨rfl, hb2⟩
    have HI := Lib.hid (HI.out.keep hb2)
    have HW := Lib.hid (HA1.out.trans (hb2.mono HA1.out.size))
    clear hb2
    obtain ⟨i0, ic0, ic1, ic2, ic3, ic4, if0, if1, if2, if3, if4⟩ := HI.out
    go_wp2_with fail
    go_loopw [4, 5] (fun u' j' wr => u' = .bool bA2 ∧ j' = .int .i64 0 ∧ wr = w2) (fun _ _ _ => 0)
    case atStart => exact ⟨rfl, rfl, rfl⟩
    case round =>
      obtain ⟨rfl, rfl, rfl⟩ := hrel
      cases bA2 <;> cases z0 <;> cases z1 <;> (
        go_wp2_with fail
        all_goals exact bodyPost_ret (v := .bool _) (by simp [results, Tryd.results19, go_sem]) rfl ⟨rfl, HW.out⟩)
  | false =>
    have HK := Lib.hid hK
    have HA1 := Lib.hid ((Below.refl w.heap.size w).alloc (Nat.le_refl _) (.cells #[.int .i64 op, .int .i64 A, .int .i64 B, .int .u64 K, .slice P 0 c] 26))
    have HI := Lib.hid (InAt.at_ w w.heap.size op A B K (.slice P 0 c) 26 rfl)
    clear hK
    go_enter Tryd.func19, Tryd.ntmps19
    go_wp2_with fail
    refine (HK.out _).mono ?_
    rintro en w2 ⟨rfl, hb2⟩
    have HI := Lib.hid (HI.out.keep hb2)
    have HW := Lib.hid (HA1.out.trans (hb2.mono HA1.out.size))
    clear hb2
    obtain ⟨i0, ic0, ic1, ic2, ic3, ic4, if0, if1, if2, if3, if4⟩ := HI.out
    go_wp2_with fail
    go_loopw [4, 5] (fun u' j' wr => u' = .bool false ∧ j' = .int .i64 0 ∧ wr = w2) (fun _ _ _ => 0)
    case atStart => exact ⟨rfl, rfl, rfl⟩
    case round =>
      obtain ⟨rfl, rfl, rfl⟩ := hrel
      cases z0 <;> cases z1 <;> (
        go_wp2_with fail
        all_goals exact bodyPost_ret (v := .bool _) (by simp [results, Tryd.results19, go_sem]) rfl ⟨rfl, HW.out⟩)
theorem rsane_8 (op A B K : Int) (P : Option Addr) (c : Nat) (w : World) (bA bA2 z0 z1 : Bool)
    (hK : ∀ W, Calls Tryd.prog 22 #[.int .i64 op] W fun en w' => en = .returned (.int .i64 8) ∧ Below W.heap.size W w')
    (q1 : decide (0 ≤ A) = bA) (q2 : decide (A ≤ 4294967295) = bA2) (qB : (B != 0) = false) (qz0 : (A == 0) = z0) (qz1 : decide (K < 4294967296) = z1) :
    Calls Tryd.prog 19 #[.agg #[.int .i64 op, .int .i64 A, .int .i64 B, .int .u64 K, .slice P 0 c]] w fun en w' => en = .returned (.bool (z0 && z1)) ∧ Below w.heap.size w w' := by
  cases bA with
  | true =>
    have HK := Lib.hid hK
    have HA1 := Lib.hid ((Below.refl w.heap.size w).alloc (Nat.le_refl _) (.cells #[.int .i64 op, .int .i64 A, .int .i64 B, .int .u64 K, .slice P 0 c] 26))
    have HI := Lib.hid (InAt.at_ w w.heap.size op A B K (.slice P 0 c) 26 rfl)
    clear hK
    go_enter Tryd.func19, Tryd.ntmps19
    go_wp2_with fail
    refine (HK.out _).mono ?_
    rintro en w2 ⟨rfl, hb2⟩
    have HI := Lib.hid (HI.out.keep hb2)
    have HW := Lib.hid (HA1.out.trans (hb2.mono HA1.out.size))
    clear hb2
    obtain ⟨i0, ic0, ic1, ic2, ic3, ic4, if0, if1, if2, if3, if4⟩ := HI.out
    go_wp2_with fail
    go_loopw [4, 5] (fun u' j' wr => u' = .bool bA2 ∧ j' = .int .i64 0 ∧ wr = w2) (fun _ _ _ => 0)
    case atStart => exact ⟨rfl, rfl, rfl⟩
    case round =>
      obtain ⟨rfl, rfl, rfl⟩ := hrel
      cases z0 <;> cases z1 <;> (
        go_wp2_with fail
        all_goals exact bodyPost_ret (v := .bool _) (by simp [results, Tryd.results19, go_sem]) rfl ⟨rfl, HW.out⟩)
  | false =>
    have HK := Lib.hid hK
    have HA1 := Lib.hid ((Below.refl w.heap.size w).alloc (Nat.le_refl _) (.cells #[.int .i64 op, .int .i64 A, .int .i64 B, .int .u64 K, .slice P 0 c] 26))
    have HI := Lib.hid (InAt.at_ w w.heap.size op A B K (.slice P 0 c) 26 rfl)
    clear hK
    go_enter Tryd.func19, Tryd.ntmps19
    go_wp2_with fail
    refine (HK.out _).mono ?_
    rintro en w2 ⟨rfl, hb2⟩
    have HI := Lib.hid (HI.out.keep hb2)
    have HW := Lib.hid (HA1.out.trans (hb2.mono HA1.out.size))
    clear hb2
    obtain ⟨i0, ic0, ic1, ic2, ic3, ic4, if0, if1, if2, if3, if4⟩ := HI.out
    go_wp2_with fail
    go_loopw [4, 5] (fun u' j' wr => u' = .bool false ∧ j' = .int .i64 0 ∧ wr = w2) (fun _ _ _ => 0)
    case atStart => exact ⟨rfl, rfl, rfl⟩
    case round =>
      obtain ⟨rfl, rfl, rfl⟩ := hrel
      cases z0 <;> cases z1 <;> (
        go_wp2_with fail
        all_goals exact bodyPost_ret (v := .bool _) (by simp [results, Tryd.results19, go_sem]) rfl ⟨rfl, HW.out⟩)
end Go.Proofs.YtmjimijolfjhmaaDoor.Ins
