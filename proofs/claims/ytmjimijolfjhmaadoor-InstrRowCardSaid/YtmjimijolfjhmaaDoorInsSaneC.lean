/- The document's Sane: may an instruction be: a BrTable. -/
import Derived.Test.YtmjimijolfjhmaaDoorInsSaneB
namespace Go.Proofs.YtmjimijolfjhmaaDoor.Ins
open Go.RowKit Ints Typ
set_option maxRecDepth 100000
set_option maxHeartbeats 4000000

theorem all_take {l : List Int} {k : Nat} (h : k < l.length) : (l.take (k + 1)).all okN = ((l.take k).all okN && okN (l.getD k 0)) := by
  rw [List.take_add_one, List.all_append, List.getD_eq_getElem?_getD, List.getElem?_eq_getElem h]
  simp
theorem rsane_4 (op A B K : Int) (P : Option Addr) (n c : Nat) (l : List Int) (w : World) (bA bA2 b64 : Bool) (hn : l.length = n) (hx : SlI w (.slice P n c) l)
    (hK : ∀ W, Calls Tryd.prog 22 #[.int .i64 op] W fun en w' => en = .returned (.int .i64 4) ∧ Below W.heap.size W w')
    (q2 : (B != 0) = false) (q3 : (K != 0) = false) (q4 : decide (0 ≤ A) = bA) (q5 : decide (A ≤ 4294967295) = bA2) (q6 : decide ((n : Int) ≤ 64) = b64) :
    Calls Tryd.prog 19 #[.agg #[.int .i64 op, .int .i64 A, .int .i64 B, .int .u64 K, .slice P n c]] w fun en w' => en = .returned (.bool (bA && bA2 && l.all okN && b64)) ∧ Below w.heap.size w w' := by
  cases bA with
  | true =>
    have HK := Lib.hid hK
    have HA1 := Lib.hid ((Below.refl w.heap.size w).alloc (Nat.le_refl _) (.cells #[.int .i64 op, .int .i64 A, .int .i64 B, .int .u64 K, .slice P n c] 26))
    have HI := Lib.hid (InAt.at_ w w.heap.size op A B K (.slice P n c) 26 rfl)
    have N1 := Lib.hid hn
    have HX := Lib.hid (hx.keep HA1.out)
    clear hn hx
    clear hK
    go_enter Tryd.func19, Tryd.ntmps19
    go_wp2_with fail
    refine (HK.out _).mono ?_
    rintro en w2 ⟨rfl, hb2⟩
    have HX := Lib.hid (HX.out.keep hb2)
    have HI := Lib.hid (HI.out.keep hb2)
    have HW := Lib.hid (HA1.out.trans (hb2.mono HA1.out.size))
    clear hb2
    obtain ⟨i0, ic0, ic1, ic2, ic3, ic4, if0, if1, if2, if3, if4⟩ := HI.out
    go_wp2_with fail
    go_loopw [4, 5] (fun u' j' wr => ∃ k : Nat, u' = .bool (bA2 && (l.take k).all okN) ∧ j' = .int .i64 (k : Int) ∧ k ≤ n ∧ wr = w2) (fun _ j' _ => n - (intOf j').toNat)
    case atStart => exact ⟨0, by simp, rfl, Nat.zero_le _, rfl⟩
    case round =>
      obtain ⟨k, rfl, rfl, hk, rfl⟩ := hrel
      have hbig := HX.out.len_le
      rw [N1.out] at hbig
      by_cases hlt : k < n
      · obtain ⟨g, p, rfl, hc⟩ := HX.out.at_ (j := k) (by rw [N1.out]; exact hlt)
        have hin1 : (0 : Int) ≤ (k : Int) := by omega
        have hin2 : (k : Int) < (n : Int) := by omega
        have hq := all_take (l := l) (k := k) (by rw [N1.out]; exact hlt)
        obtain ⟨z, hz⟩ : ∃ z, l.getD k 0 = z := ⟨_, rfl⟩
        rw [hz] at hc hq
        obtain ⟨t1, h1⟩ : ∃ b, decide (0 ≤ z) = b := ⟨_, rfl⟩
        obtain ⟨t2, h2⟩ : ∃ b, decide (z ≤ 4294967295) = b := ⟨_, rfl⟩
        have hk2 : okN z = (t1 && t2) := by unfold okN; rw [h1, h2]
        have HU : Hid ((bA2 && (l.take (k + 1)).all okN) = ((bA2 && (l.take k).all okN) && (t1 && t2))) := by
          show _ = _
          rw [hq, hk2, Bool.and_assoc]
        clear hq hz hk2
        generalize (bA2 && (l.take k).all okN) = uu at *
        cases uu with
        | false =>
          go_wp2_with fail
          go_roundw
          case rel => exact ⟨k + 1, by rw [HU.out]; rfl, by go_num, hlt, trivial⟩
          case measure => simp [intOf]; omega
        | true =>
          cases t1 with
          | false =>
            go_wp2_with fail
            go_roundw
            case rel => exact ⟨k + 1, by rw [HU.out]; rfl, by go_num, hlt, trivial⟩
            case measure => simp [intOf]; omega
          | true =>
            cases t2 with
            | false =>
              go_wp2_with fail
              go_roundw
              case rel => exact ⟨k + 1, by rw [HU.out]; rfl, by go_num, hlt, trivial⟩
              case measure => simp [intOf]; omega
            | true =>
              go_wp2_with fail
              go_roundw
              case rel => exact ⟨k + 1, by rw [HU.out]; rfl, by go_num, hlt, trivial⟩
              case measure => simp [intOf]; omega
      · obtain rfl : k = n := by omega
        have HT : Hid (l.take k = l) := List.take_of_length_le (by rw [N1.out]; exact Nat.le_refl _)
        rw [HT.out]
        cases bA2 with
        | false =>
          rw [show (false && l.all okN) = false from rfl]
          go_wp2_with fail
          exact bodyPost_ret (v := .bool false) (by simp [results, Tryd.results19, go_sem]) rfl ⟨rfl, HW.out⟩
        | true =>
          cases hs : l.all okN with
          | false =>
            rw [show (true && false) = false from rfl]
            go_wp2_with fail
            exact bodyPost_ret (v := .bool false) (by simp [results, Tryd.results19, go_sem]) rfl ⟨by rw [hs]; rfl, HW.out⟩
          | true =>
            rw [show (true && true) = true from rfl]
            go_wp2_with fail
            exact bodyPost_ret (v := .bool b64) (by simp [results, Tryd.results19, go_sem]) rfl ⟨by rw [hs]; rfl, HW.out⟩
  | false =>
    have HK := Lib.hid hK
    have HA1 := Lib.hid ((Below.refl w.heap.size w).alloc (Nat.le_refl _) (.cells #[.int .i64 op, .int .i64 A, .int .i64 B, .int .u64 K, .slice P n c] 26))
    have HI := Lib.hid (InAt.at_ w w.heap.size op A B K (.slice P n c) 26 rfl)
    have N1 := Lib.hid hn
    have HX := Lib.hid (hx.keep HA1.out)
    clear hn hx
    clear hK
    go_enter Tryd.func19, Tryd.ntmps19
    go_wp2_with fail
    refine (HK.out _).mono ?_
    rintro en w2 ⟨rfl, hb2⟩
    have HX := Lib.hid (HX.out.keep hb2)
    have HI := Lib.hid (HI.out.keep hb2)
    have HW := Lib.hid (HA1.out.trans (hb2.mono HA1.out.size))
    clear hb2
    obtain ⟨i0, ic0, ic1, ic2, ic3, ic4, if0, if1, if2, if3, if4⟩ := HI.out
    go_wp2_with fail
    go_loopw [4, 5] (fun u' j' wr => ∃ k : Nat, u' = .bool (false && (l.take k).all okN) ∧ j' = .int .i64 (k : Int) ∧ k ≤ n ∧ wr = w2) (fun _ j' _ => n - (intOf j').toNat)
    case atStart => exact ⟨0, by simp, rfl, Nat.zero_le _, rfl⟩
    case round =>
      obtain ⟨k, rfl, rfl, hk, rfl⟩ := hrel
      have hbig := HX.out.len_le
      rw [N1.out] at hbig
      by_cases hlt : k < n
      · obtain ⟨g, p, rfl, hc⟩ := HX.out.at_ (j := k) (by rw [N1.out]; exact hlt)
        have hin1 : (0 : Int) ≤ (k : Int) := by omega
        have hin2 : (k : Int) < (n : Int) := by omega
        have hq := all_take (l := l) (k := k) (by rw [N1.out]; exact hlt)
        obtain ⟨z, hz⟩ : ∃ z, l.getD k 0 = z := ⟨_, rfl⟩
        rw [hz] at hc hq
        obtain ⟨t1, h1⟩ : ∃ b, decide (0 ≤ z) = b := ⟨_, rfl⟩
        obtain ⟨t2, h2⟩ : ∃ b, decide (z ≤ 4294967295) = b := ⟨_, rfl⟩
        have hk2 : okN z = (t1 && t2) := by unfold okN; rw [h1, h2]
        have HU : Hid ((false && (l.take (k + 1)).all okN) = ((false && (l.take k).all okN) && (t1 && t2))) := by
          show _ = _
          rw [hq, hk2, Bool.and_assoc]
        clear hq hz hk2
        generalize (false && (l.take k).all okN) = uu at *
        cases uu with
        | false =>
          go_wp2_with fail
          go_roundw
          case rel => exact ⟨k + 1, by rw [HU.out]; rfl, by go_num, hlt, trivial⟩
          case measure => simp [intOf]; omega
        | true =>
          cases t1 with
          | false =>
            go_wp2_with fail
            go_roundw
            case rel => exact ⟨k + 1, by rw [HU.out]; rfl, by go_num, hlt, trivial⟩
            case measure => simp [intOf]; omega
          | true =>
            cases t2 with
            | false =>
              go_wp2_with fail
              go_roundw
              case rel => exact ⟨k + 1, by rw [HU.out]; rfl, by go_num, hlt, trivial⟩
              case measure => simp [intOf]; omega
            | true =>
              go_wp2_with fail
              go_roundw
              case rel => exact ⟨k + 1, by rw [HU.out]; rfl, by go_num, hlt, trivial⟩
              case measure => simp [intOf]; omega
      · obtain rfl : k = n := by omega
        have HT : Hid (l.take k = l) := List.take_of_length_le (by rw [N1.out]; exact Nat.le_refl _)
        rw [HT.out]
        rw [show (false && l.all okN) = false from rfl]
        go_wp2_with fail
        exact bodyPost_ret (v := .bool false) (by simp [results, Tryd.results19, go_sem]) rfl ⟨rfl, HW.out⟩
end Go.Proofs.YtmjimijolfjhmaaDoor.Ins
