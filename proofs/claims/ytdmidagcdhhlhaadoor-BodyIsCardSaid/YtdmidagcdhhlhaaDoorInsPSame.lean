/- The program's Same: whole numbers one by one, and instructions. -/
import Derived.Test.YtdmidagcdhhlhaaDoorInsSame
import Derived.Test.YtdmidagcdhhlhaaDoorInsPKind
namespace Go.Proofs.YtdmidagcdhhlhaaDoor.Ins
open Go.RowKit Ints Typ
set_option maxRecDepth 100000
set_option maxHeartbeats 1000000
set_option linter.unusedVariables false

theorem equal_far (P Q : Option Addr) (c d n m : Nat) (w : World) (h : ((n : Int) != (m : Int)) = true) : Calls Tryd.prog 63 #[.slice P n c, .slice Q m d] w fun en w' => en = .returned (.bool false) ∧ Below w.heap.size w w' := by
  go_enter Tryd.func63, Tryd.ntmps63
  go_wp2_with fail
  exact bodyPost_ret (v := .bool false) (by simp [results, Tryd.results63, go_sem]) rfl ⟨rfl, Below.refl _ _⟩
theorem equal_loop (x y : List Int) (P Q : Option Addr) (c d : Nat) (w : World) (n : Nat) (hn1 : x.length = n) (hn2 : y.length = n) (hx : SlI w (.slice P n c) x) (hy : SlI w (.slice Q n d) y) :
    Calls Tryd.prog 63 #[.slice P n c, .slice Q n d] w fun en w' => en = .returned (.bool (decide (x = y))) ∧ Below w.heap.size w w' := by
  have N1 := Lib.hid hn1
  have N2 := Lib.hid hn2
  have HX := Lib.hid hx
  have HY := Lib.hid hy
  clear hn1 hn2 hx hy
  go_enter Tryd.func63, Tryd.ntmps63
  go_wp2_with fail
  go_loopw [13] (fun j' wr => ∃ k : Nat, j' = .int .i64 (k : Int) ∧ k ≤ n ∧ x.take k = y.take k ∧ SlI wr (.slice P n c) x ∧ SlI wr (.slice Q n d) y ∧ Below w.heap.size w wr) (fun j' _ => n - (intOf j').toNat)
  case atStart => exact ⟨0, rfl, Nat.zero_le _, rfl, HX.out, HY.out, Below.refl _ _⟩
  case round =>
    clear HX HY
    obtain ⟨k, rfl, hk, ht, hX, hY, hW⟩ := hrel
    have HX := Lib.hid hX
    have HY := Lib.hid hY
    have HW := Lib.hid hW
    have HT := Lib.hid ht
    clear hX hY hW ht
    have hbig := HX.out.len_le
    rw [N1.out] at hbig
    by_cases hlt : k < n
    · obtain ⟨g1, p1, rfl, hc1⟩ := HX.out.at_ (j := k) (by rw [N1.out]; exact hlt)
      obtain ⟨g2, p2, rfl, hc2⟩ := HY.out.at_ (j := k) (by rw [N2.out]; exact hlt)
      have hin1 : (0 : Int) ≤ (k : Int) := by omega
      have hin2 : (k : Int) < (n : Int) := by omega
      obtain ⟨u, hu⟩ : ∃ u, x.getD k 0 = u := ⟨_, rfl⟩
      obtain ⟨v, hv⟩ : ∃ v, y.getD k 0 = v := ⟨_, rfl⟩
      rw [hu] at hc1
      rw [hv] at hc2
      have HU := Lib.hid hu
      have HV := Lib.hid hv
      clear hu hv
      cases hq : (u != v) with
      | true =>
        have HQ := Lib.hid (of_take_ne (a := x) (b := y) (k := k) (by rw [HU.out, HV.out]; exact hq))
        go_wp2_with fail
        go_quiet (fail)
        go_wp2_with fail
        rw [decide_eq_false HQ.out]
        exact bodyPost_ret (v := .bool false) (by simp [results, Tryd.results63, go_sem]) rfl ⟨rfl, HW.out.trans (drewNB _ _ HW.out.size)⟩
      | false =>
        have HQ := Lib.hid (take_eq HT.out (by rw [N1.out]; exact hlt) (by rw [N2.out]; exact hlt) (by rw [HU.out, HV.out]; exact hq))
        go_wp2_with fail
        go_quiet (fail)
        go_wp2_with fail
        go_roundw
        case rel => exact ⟨k + 1, by go_num, hlt, HQ.out, HX.out.keep (drewNB _ _ (Nat.le_refl _)), HY.out.keep (drewNB _ _ (Nat.le_refl _)), HW.out.trans (drewNB _ _ HW.out.size)⟩
        case measure => simp [intOf]; omega
    · obtain rfl : k = n := by omega
      have HQ : Hid (x = y) := by
        have h1 := HT.out
        rw [List.take_of_length_le (by rw [N1.out]; exact Nat.le_refl _), List.take_of_length_le (by rw [N2.out]; exact Nat.le_refl _)] at h1
        exact h1
      go_wp2_with fail
      rw [decide_eq_true HQ.out]
      exact bodyPost_ret (v := .bool true) (by simp [results, Tryd.results63, go_sem]) rfl ⟨rfl, HW.out⟩
theorem equal_any {x y : List Int} {o p : Value} {w : World} (hx : SlI w o x) (hy : SlI w p y) : Calls Tryd.prog 63 #[o, p] w fun en w' => en = .returned (.bool (decide (x = y))) ∧ Below w.heap.size w w' := by
  obtain ⟨P, c, ho, _⟩ := id hx
  obtain ⟨Q, d, hp, _⟩ := id hy
  subst ho hp
  by_cases hn : x.length = y.length
  · rw [← hn] at hy ⊢
    exact equal_loop x y P Q c d w x.length rfl hn.symm hx hy
  · rw [decide_eq_false (fun h => hn (by rw [h]))]
    exact equal_far P Q c d _ _ w (by simp; omega)
theorem psame_core (x y : Ins) (P Q : Option Addr) (c d n m : Nat) (w : World) (b1 b2 b3 b4 b5 : Bool) (h1 : (x.op == y.op) = b1) (h2 : (x.A == y.A) = b2) (h3 : (x.B == y.B) = b3) (h4 : (x.K == y.K) = b4)
    (hE : ∀ W, Below w.heap.size w W → Calls Tryd.prog 63 #[.slice P n c, .slice Q m d] W fun en w' => en = .returned (.bool b5) ∧ Below W.heap.size W w') :
    Calls Tryd.prog 46 #[iv x (.slice P n c), iv y (.slice Q m d)] w fun en w' => en = .returned (.bool (b1 && b2 && b3 && b4 && b5)) ∧ Below w.heap.size w w' := by
  unfold iv
  have HW : Below w.heap.size w ((w.alloc (.cells #[.int .i64 x.op, .int .i64 x.A, .int .i64 x.B, .int .u64 x.K, .slice P n c] 50)).alloc (.cells #[.int .i64 y.op, .int .i64 y.A, .int .i64 y.B, .int .u64 y.K, .slice Q m d] 50)) := ((Below.refl _ _).alloc (Nat.le_refl _) _).alloc (by simp) _
  have HI := Lib.hid ((InAt.at_ w w.heap.size x.op x.A x.B x.K (.slice P n c) 50 rfl).keep ((Below.refl _ _).alloc (Nat.le_refl _) (.cells #[.int .i64 y.op, .int .i64 y.A, .int .i64 y.B, .int .u64 y.K, .slice Q m d] 50)))
  have HJ := Lib.hid (InAt.at_ (w.alloc (.cells #[.int .i64 x.op, .int .i64 x.A, .int .i64 x.B, .int .u64 x.K, .slice P n c] 50)) (w.heap.size + 1) y.op y.A y.B y.K (.slice Q m d) 50 (by simp))
  have HW' := Lib.hid HW
  have HE := Lib.hid hE
  clear HW hE
  obtain ⟨i0, ic0, ic1, ic2, ic3, ic4, if0, if1, if2, if3, if4⟩ := HI.out
  obtain ⟨o0, oc0, oc1, oc2, oc3, oc4, of0, of1, of2, of3, of4⟩ := HJ.out
  cases b1 with
  | false =>
    go_enter Tryd.func46, Tryd.ntmps46
    go_wp2_with fail
    exact bodyPost_ret (v := .bool false) (by simp [results, Tryd.results46, go_sem]) rfl ⟨rfl, HW'.out⟩
  | true =>
    cases b2 with
    | false =>
      go_enter Tryd.func46, Tryd.ntmps46
      go_wp2_with fail
      exact bodyPost_ret (v := .bool false) (by simp [results, Tryd.results46, go_sem]) rfl ⟨rfl, HW'.out⟩
    | true =>
      cases b3 with
      | false =>
        go_enter Tryd.func46, Tryd.ntmps46
        go_wp2_with fail
        exact bodyPost_ret (v := .bool false) (by simp [results, Tryd.results46, go_sem]) rfl ⟨rfl, HW'.out⟩
      | true =>
        cases b4 with
        | false =>
          go_enter Tryd.func46, Tryd.ntmps46
          go_wp2_with fail
          exact bodyPost_ret (v := .bool false) (by simp [results, Tryd.results46, go_sem]) rfl ⟨rfl, HW'.out⟩
        | true =>
          go_enter Tryd.func46, Tryd.ntmps46
          go_wp2_with fail
          refine (HE.out _ HW'.out).mono ?_
          rintro en w2 ⟨rfl, hb2⟩
          have HB2 := Lib.hid (HW'.out.trans (hb2.mono HW'.out.size))
          clear hb2
          go_wp2_with fail
          exact bodyPost_ret (v := .bool b5) (by simp [results, Tryd.results46, go_sem]) rfl ⟨by simp, HB2.out⟩
theorem psame_any {x y : Ins} {o p : Value} {w : World} (hx : SlI w o x.L) (hy : SlI w p y.L) : Calls Tryd.prog 46 #[iv x o, iv y p] w fun en w' => en = .returned (.bool (smI x y)) ∧ Below w.heap.size w w' := by
  obtain ⟨P, c, ho, _⟩ := id hx
  obtain ⟨Q, d, hp, _⟩ := id hy
  subst ho hp
  have := psame_core x y P Q c d _ _ w _ _ _ _ _ rfl rfl rfl rfl (fun W hW => equal_any (hx.keep hW) (hy.keep hW))
  have e1 : (x.op == y.op && x.A == y.A && x.B == y.B && x.K == y.K && decide (x.L = y.L)) = smI x y := by
    unfold smI
    rw [Bool.eq_iff_iff]
    simp [and_assoc]
  rw [e1] at this
  exact this
end Go.Proofs.YtdmidagcdhhlhaaDoor.Ins
