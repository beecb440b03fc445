/- The document's Sane: may an instruction be: what may not be at once. -/
import Derived.Test.YtmjimijolfjhmaaDoorInsSame
namespace Go.Proofs.YtmjimijolfjhmaaDoor.Ins
open Go.RowKit Ints Typ
set_option maxRecDepth 100000
set_option maxHeartbeats 4000000

def okN (x : Int) : Bool := decide (0 ≤ x) && decide (x ≤ 4294967295)
theorem rsane_far (op A B K k : Int) (P : Option Addr) (n c : Nat) (w : World) (bA bA2 c4 bn c6 bB c8 c9 bK : Bool)
    (hK : ∀ W, Calls Tryd.prog 22 #[.int .i64 op] W fun en w' => en = .returned (.int .i64 k) ∧ Below W.heap.size W w')
    (q1 : decide (0 ≤ A) = bA) (q2 : decide (A ≤ 4294967295) = bA2) (q3 : (k != 4) = c4) (q4 : decide (0 < n) = bn) (q5 : (k != 6) = c6) (q6 : (B != 0) = bB) (q7 : (k != 8) = c8) (q8 : (k != 9) = c9) (q9 : (K != 0) = bK)
    (h : (c4 && bn || c6 && bB || c8 && c9 && bK) = true) :
    Calls Tryd.prog 19 #[.agg #[.int .i64 op, .int .i64 A, .int .i64 B, .int .u64 K, .slice P n c]] w fun en w' => en = .returned (.bool false) ∧ Below w.heap.size w w' := by
  cases c4 with
  | true =>
    cases bn with
    | true =>
      have HK := Lib.hid hK
      have HA1 := Lib.hid ((Below.refl w.heap.size w).alloc (Nat.le_refl _) (.cells #[.int .i64 op, .int .i64 A, .int .i64 B, .int .u64 K, .slice P n c] 26))
      have HI := Lib.hid (InAt.at_ w w.heap.size op A B K (.slice P n c) 26 rfl)
      clear hK
      go_enter Tryd.func19, Tryd.ntmps19
      go_wp2_with fail
      refine (HK.out _).mono ?_
      rintro en w2 ⟨rfl, hb2⟩
      have HI := Lib.hid (HI.out.keep hb2)
      have HW := Lib.hid (HA1.out.trans (hb2.mono HA1.out.size))
      clear hb2
      obtain ⟨i0, ic0, ic1, ic2, ic3, ic4, if0, if1, if2, if3, if4⟩ := HI.out
      go_wp2_with fail
      all_goals exact bodyPost_ret (v := .bool false) (by simp [results, Tryd.results19, go_sem]) rfl ⟨rfl, HW.out⟩
    | false =>
      cases c6 with
      | true =>
        cases bB with
        | true =>
          have HK := Lib.hid hK
          have HA1 := Lib.hid ((Below.refl w.heap.size w).alloc (Nat.le_refl _) (.cells #[.int .i64 op, .int .i64 A, .int .i64 B, .int .u64 K, .slice P n c] 26))
          have HI := Lib.hid (InAt.at_ w w.heap.size op A B K (.slice P n c) 26 rfl)
          clear hK
          go_enter Tryd.func19, Tryd.ntmps19
          go_wp2_with fail
          refine (HK.out _).mono ?_
          rintro en w2 ⟨rfl, hb2⟩
          have HI := Lib.hid (HI.out.keep hb2)
          have HW := Lib.hid (HA1.out.trans (hb2.mono HA1.out.size))
          clear hb2
          obtain ⟨i0, ic0, ic1, ic2, ic3, ic4, if0, if1, if2, if3, if4⟩ := HI.out
          go_wp2_with fail
          all_goals exact bodyPost_ret (v := .bool false) (by simp [results, Tryd.results19, go_sem]) rfl ⟨rfl, HW.out⟩
        | false =>
          obtain ⟨rfl, rfl, rfl⟩ : c8 = true ∧ c9 = true ∧ bK = true := by revert h; cases c8 <;> cases c9 <;> cases bK <;> simp
          have HK := Lib.hid hK
          have HA1 := Lib.hid ((Below.refl w.heap.size w).alloc (Nat.le_refl _) (.cells #[.int .i64 op, .int .i64 A, .int .i64 B, .int .u64 K, .slice P n c] 26))
          have HI := Lib.hid (InAt.at_ w w.heap.size op A B K (.slice P n c) 26 rfl)
          clear hK
          go_enter Tryd.func19, Tryd.ntmps19
          go_wp2_with fail
          refine (HK.out _).mono ?_
          rintro en w2 ⟨rfl, hb2⟩
          have HI := Lib.hid (HI.out.keep hb2)
          have HW := Lib.hid (HA1.out.trans (hb2.mono HA1.out.size))
          clear hb2
          obtain ⟨i0, ic0, ic1, ic2, ic3, ic4, if0, if1, if2, if3, if4⟩ := HI.out
          go_wp2_with fail
          all_goals exact bodyPost_ret (v := .bool false) (by simp [results, Tryd.results19, go_sem]) rfl ⟨rfl, HW.out⟩
      | false =>
        obtain ⟨rfl, rfl, rfl⟩ : c8 = true ∧ c9 = true ∧ bK = true := by revert h; cases c8 <;> cases c9 <;> cases bK <;> simp
        have HK := Lib.hid hK
        have HA1 := Lib.hid ((Below.refl w.heap.size w).alloc (Nat.le_refl _) (.cells #[.int .i64 op, .int .i64 A, .int .i64 B, .int .u64 K, .slice P n c] 26))
        have HI := Lib.hid (InAt.at_ w w.heap.size op A B K (.slice P n c) 26 rfl)
        clear hK
        go_enter Tryd.func19, Tryd.ntmps19
        go_wp2_with fail
        refine (HK.out _).mono ?_
        rintro en w2 ⟨rfl, hb2⟩
        have HI := Lib.hid (HI.out.keep hb2)
        have HW := Lib.hid (HA1.out.trans (hb2.mono HA1.out.size))
        clear hb2
        obtain ⟨i0, ic0, ic1, ic2, ic3, ic4, if0, if1, if2, if3, if4⟩ := HI.out
        go_wp2_with fail
        all_goals exact bodyPost_ret (v := .bool false) (by simp [results, Tryd.results19, go_sem]) rfl ⟨rfl, HW.out⟩
  | false =>
    cases c6 with
    | true =>
      cases bB with
      | true =>
        have HK := Lib.hid hK
        have HA1 := Lib.hid ((Below.refl w.heap.size w).alloc (Nat.le_refl _) (.cells #[.int .i64 op, .int .i64 A, .int .i64 B, .int .u64 K, .slice P n c] 26))
        have HI := Lib.hid (InAt.at_ w w.heap.size op A B K (.slice P n c) 26 rfl)
        clear hK
        go_enter Tryd.func19, Tryd.ntmps19
        go_wp2_with fail
        refine (HK.out _).mono ?_
        rintro en w2 ⟨rfl, hb2⟩
        have HI := Lib.hid (HI.out.keep hb2)
        have HW := Lib.hid (HA1.out.trans (hb2.mono HA1.out.size))
        clear hb2
        obtain ⟨i0, ic0, ic1, ic2, ic3, ic4, if0, if1, if2, if3, if4⟩ := HI.out
        go_wp2_with fail
        all_goals exact bodyPost_ret (v := .bool false) (by simp [results, Tryd.results19, go_sem]) rfl ⟨rfl, HW.out⟩
      | false =>
        obtain ⟨rfl, rfl, rfl⟩ : c8 = true ∧ c9 = true ∧ bK = true := by revert h; cases c8 <;> cases c9 <;> cases bK <;> simp
        have HK := Lib.hid hK
        have HA1 := Lib.hid ((Below.refl w.heap.size w).alloc (Nat.le_refl _) (.cells #[.int .i64 op, .int .i64 A, .int .i64 B, .int .u64 K, .slice P n c] 26))
        have HI := Lib.hid (InAt.at_ w w.heap.size op A B K (.slice P n c) 26 rfl)
        clear hK
        go_enter Tryd.func19, Tryd.ntmps19
        go_wp2_with fail
        refine (HK.out _).mono ?_
        rintro en w2 ⟨rfl, hb2⟩
        have HI := Lib.hid (HI.out.keep hb2)
        have HW := Lib.hid (HA1.out.trans (hb2.mono HA1.out.size))
        clear hb2
        obtain ⟨i0, ic0, ic1, ic2, ic3, ic4, if0, if1, if2, if3, if4⟩ := HI.out
        go_wp2_with fail
        all_goals exact bodyPost_ret (v := .bool false) (by simp [results, Tryd.results19, go_sem]) rfl ⟨rfl, HW.out⟩
    | false =>
      obtain ⟨rfl, rfl, rfl⟩ : c8 = true ∧ c9 = true ∧ bK = true := by revert h; cases c8 <;> cases c9 <;> cases bK <;> simp
      have HK := Lib.hid hK
      have HA1 := Lib.hid ((Below.refl w.heap.size w).alloc (Nat.le_refl _) (.cells #[.int .i64 op, .int .i64 A, .int .i64 B, .int .u64 K, .slice P n c] 26))
      have HI := Lib.hid (InAt.at_ w w.heap.size op A B K (.slice P n c) 26 rfl)
      clear hK
      go_enter Tryd.func19, Tryd.ntmps19
      go_wp2_with fail
      refine (HK.out _).mono ?_
      rintro en w2 ⟨rfl, hb2⟩
      have HI := Lib.hid (HI.out.keep hb2)
      have HW := Lib.hid (HA1.out.trans (hb2.mono HA1.out.size))
      clear hb2
      obtain ⟨i0, ic0, ic1, ic2, ic3, ic4, if0, if1, if2, if3, if4⟩ := HI.out
      go_wp2_with fail
      all_goals exact bodyPost_ret (v := .bool false) (by simp [results, Tryd.results19, go_sem]) rfl ⟨rfl, HW.out⟩
end Go.Proofs.YtmjimijolfjhmaaDoor.Ins
