/- Whole numbers, and instructions, the same, by the document, walked. -/
import Derived.Test.YtdmidagcdhhlhaaDoorBodFew
namespace Go.Proofs.YtdmidagcdhhlhaaDoor.Bod
open Go.RowKit Ints Typ Ins
set_option maxRecDepth 100000
set_option maxHeartbeats 1000000
set_option linter.unusedVariables false

theorem ints_loop (X Y : List Int) (P Q : Option Addr) (c d : Nat) (w : World) (n : Nat) (hn1 : X.length = n) (hn2 : Y.length = n) (hx : SlI w (.slice P n c) X) (hy : SlI w (.slice Q n d) Y) :
    Calls Tryd.prog 24 #[.slice P n c, .slice Q n d] w fun en w' => en = .returned (.bool (decide (X = Y))) ∧ Below w.heap.size w w' := by
  have N1 := Lib.hid hn1
  have N2 := Lib.hid hn2
  clear hn1 hn2
  have HX := Lib.hid hx
  have HY := Lib.hid hy
  clear hx hy
  go_enter Tryd.func24, Tryd.ntmps24
  go_wp2_with fail
  go_loopw [5] (fun j' wr => ∃ k : Nat, j' = .int .i64 (k : Int) ∧ k ≤ n ∧ X.take k = Y.take k ∧ SlI wr (.slice P n c) X ∧ SlI wr (.slice Q n d) Y ∧ Below w.heap.size w wr) (fun j' _ => n - (intOf j').toNat)
  case atStart => exact ⟨0, by go_num, Nat.zero_le _, rfl, HX.out, HY.out, Below.refl _ _⟩
  case round =>
    clear HX HY
    obtain ⟨k, rfl, hk, ht, hX, hY, hW⟩ := hrel
    have HX := Lib.hid hX
    have HY := Lib.hid hY
    have HW := Lib.hid hW
    have HT := Lib.hid ht
    clear hX hY hW ht
    have hbig := HX.out.len_le
    rw [N1.out] at hbig
    by_cases hlt : k < n
    · obtain ⟨g1, p1, rfl, hc1⟩ := HX.out.at_ (j := k) (by rw [N1.out]; exact hlt)
      obtain ⟨g2, p2, rfl, hc2⟩ := HY.out.at_ (j := k) (by rw [N2.out]; exact hlt)
      have hin1 : (0 : Int) ≤ (k : Int) := by omega
      have hin2 : (k : Int) < (n : Int) := by omega
      have hw1 : IntKind.i64.wrap ((k : Int) + 1) = (k : Int) + 1 := IntWalk.i64_in _ (by omega)
      obtain ⟨u, hu⟩ : ∃ u, X.getD k 0 = u := ⟨_, rfl⟩
      obtain ⟨v, hv⟩ : ∃ v, Y.getD k 0 = v := ⟨_, rfl⟩
      rw [hu] at hc1
      rw [hv] at hc2
      have HU := Lib.hid hu
      have HV := Lib.hid hv
      clear hu hv
      cases hq : (u != v) with
      | true =>
        have HQ := Lib.hid (of_take_ne (a := X) (b := Y) (k := k) (by rw [HU.out, HV.out]; exact hq))
        go_wp2_with fail
        go_quiet (fail)
        go_wp2_with fail
        rw [decide_eq_false HQ.out]
        exact bodyPost_ret (v := .bool false) (by simp [results, Tryd.results24, go_sem]) rfl ⟨rfl, HW.out.trans (drewNB _ _ HW.out.size)⟩
      | false =>
        have HQ := Lib.hid (take_eq HT.out (by rw [N1.out]; exact hlt) (by rw [N2.out]; exact hlt) (by rw [HU.out, HV.out]; exact hq))
        go_wp2_with fail
        go_quiet (fail)
        go_wp2_with fail
        go_roundw
        case rel => exact ⟨k + 1, by go_num, hlt, HQ.out, HX.out.keep (drewNB _ _ (Nat.le_refl _)), HY.out.keep (drewNB _ _ (Nat.le_refl _)), HW.out.trans (drewNB _ _ HW.out.size)⟩
        case measure => simp [intOf]; omega
    · obtain rfl : k = n := by omega
      have HQ : Hid (X = Y) := by
        have h1 := HT.out
        rw [List.take_of_length_le (by rw [N1.out]; exact Nat.le_refl _), List.take_of_length_le (by rw [N2.out]; exact Nat.le_refl _)] at h1
        exact h1
      go_wp2_with fail
      rw [decide_eq_true HQ.out]
      exact bodyPost_ret (v := .bool true) (by simp [results, Tryd.results24, go_sem]) rfl ⟨rfl, HW.out⟩
theorem ints_any {X Y : List Int} {o p : Value} {w : World} (hx : SlI w o X) (hy : SlI w p Y) : Calls Tryd.prog 24 #[o, p] w fun en w' => en = .returned (.bool (decide (X = Y))) ∧ Below w.heap.size w w' := by
  obtain ⟨P, c, ho, _⟩ := id hx
  obtain ⟨Q, d, hp, _⟩ := id hy
  subst ho
  subst hp
  by_cases h : X.length = Y.length
  · rw [← h] at hy ⊢
    exact ints_loop X Y P Q c d w _ rfl h.symm hx hy
  · have HNO := Lib.hid (fun e : X = Y => h (by rw [e]))
    have t1 : ((X.length : Int) != (Y.length : Int)) = true := by simp; omega
    generalize X.length = a at t1
    generalize Y.length = b at t1
    clear h hx hy
    go_enter Tryd.func24, Tryd.ntmps24
    go_wp2_with fail
    rw [decide_eq_false HNO.out]
    exact bodyPost_ret (v := .bool false) (by simp [results, Tryd.results24, go_sem]) rfl ⟨rfl, Below.refl _ _⟩
end Go.Proofs.YtdmidagcdhhlhaaDoor.Bod
