/- Instructions the same, by the document, walked. -/
import Derived.Test.YtdmidagcdhhlhaaDoorBodEqual
import Derived.Test.YtdmidagcdhhlhaaDoorInsStab
import Derived.Test.YtdmidagcdhhlhaaDoorInsSame
namespace Go.Proofs.YtdmidagcdhhlhaaDoor.Bod
open Go.RowKit Ints Typ Ins
set_option maxRecDepth 100000
set_option maxHeartbeats 1000000
set_option linter.unusedVariables false

/-- The instructions of a row. -/
def insL (l : List (Ins × Value)) : List Ins := l.map (·.1)
theorem insL_len (l : List (Ins × Value)) : (insL l).length = l.length := by simp [insL]
theorem insL_get {l : List (Ins × Value)} {j : Nat} {p : Ins × Value} (h : l[j]? = some p) : (insL l)[j]? = some p.1 := by
  unfold insL
  rw [List.getElem?_map, h]
  rfl
theorem smI_eq {x y : Ins} : smI x y = true ↔ x = y := by
  unfold smI
  rw [decide_eq_true_eq]
  constructor
  · rintro ⟨h1, h2, h3, h4, h5⟩
    cases x; cases y
    simp only at h1 h2 h3 h4 h5
    subst h1 h2 h3 h4 h5
    rfl
  · rintro rfl
    exact ⟨rfl, rfl, rfl, rfl, rfl⟩
theorem bat (g off k n c : Nat) (W : World) (h1 : (0 : Int) ≤ (k : Int)) (h2 : (k : Int) < (n : Int)) : (Instr.indexAt 22 (.slice (some ⟨g, off, none⟩) n c) (.int .i64 (k : Int))).run Tryd.prog W = .ok (.pointer (some ⟨g, off + k * 5, none⟩)) W := by go_simp
theorem cellsRun {W : World} {g o : Nat} {x : Ins} {P : Option Addr} {n c : Nat} (H : InCells W g o (x, .slice P n c)) : (Instr.loadAt 50 (.pointer (some ⟨g, o, none⟩))).run Tryd.prog W = .ok (.agg #[.int .i64 x.op, .int .i64 x.A, .int .i64 x.B, .int .u64 x.K, .slice P n c]) W := by
  obtain ⟨q1, q2, q3, q4, q5⟩ := H
  simp only at q1 q2 q3 q4 q5
  go_simp
theorem bsame_loop {a b : List (Ins × Value)} {A B : Option Addr} {n c d : Nat} {w : World} (hn1 : a.length = n) (hn2 : b.length = n) (ha : InRow w (.slice A n c) a) (hb : InRow w (.slice B n d) b) :
    Calls Tryd.prog 21 #[.slice A n c, .slice B n d] w fun e w' => (∃ r, e = .returned (.bool r) ∧ (r = true ↔ insL a = insL b)) ∧ Below w.heap.size w w' := by
  have N1 := Lib.hid hn1
  have N2 := Lib.hid hn2
  have HRA := Lib.hid ha
  have HRB := Lib.hid hb
  have hbig : n ≤ 9223372036854775807 := by
    obtain ⟨⟨A, c', h1, h2, h3, _⟩, _⟩ := id ha
    injection h1 with _ h4 h5
    omega
  clear hn1 hn2 ha hb
  go_enter Tryd.func21, Tryd.ntmps21
  go_wp2_with fail
  go_loopw [5] (fun j' wr => ∃ k : Nat, j' = .int .i64 (k : Int) ∧ k ≤ n ∧ (insL a).take k = (insL b).take k ∧ Below w.heap.size w wr) (fun j' _ => n - (intOf j').toNat)
  case atStart => exact ⟨0, by go_num, Nat.zero_le _, rfl, Below.refl _ _⟩
  case round =>
    obtain ⟨k, rfl, hk, ht, hW⟩ := hrel
    have HW := Lib.hid hW
    have HT := Lib.hid ht
    clear hW ht
    by_cases hlt : k < n
    · obtain ⟨p, hp⟩ : ∃ p, a[k]? = some p := ⟨_, List.getElem?_eq_getElem (by rw [N1.out]; exact hlt)⟩
      obtain ⟨q, hq⟩ : ∃ q, b[k]? = some q := ⟨_, List.getElem?_eq_getElem (by rw [N2.out]; exact hlt)⟩
      obtain ⟨g, off, hA, _⟩ := HRA.out.at_ hp
      subst hA
      obtain ⟨g', off', hB, _⟩ := HRB.out.at_ hq
      subst hB
      have HOa := Lib.hid (HRA.out.2 _ (List.mem_of_getElem? hp)).1
      have HOb := Lib.hid (HRB.out.2 _ (List.mem_of_getElem? hq)).1
      have HGA := Lib.hid (insL_get hp)
      have HGB := Lib.hid (insL_get hq)
      have HPA := Lib.hid hp
      have HPB := Lib.hid hq
      obtain ⟨PX, cX, hpx, _⟩ := id HOa.out
      obtain ⟨PY, cY, hpy, _⟩ := id HOb.out
      obtain ⟨x, ox⟩ := p
      obtain ⟨y, oy⟩ := q
      simp only at hpx hpy HOa HOb HGA HGB
      have HSM : Hid (∀ W, Below w.heap.size w W → Calls Tryd.prog 40 #[iv x ox, iv y oy] W fun e w' => e = .returned (.bool (smI x y)) ∧ Below W.heap.size W w') := fun W hW => rsame_any (HOa.out.keep hW) (HOb.out.keep hW)
      unfold iv at HSM
      clear HOa HOb hp hq
      obtain ⟨nX, hnX⟩ : ∃ m, x.L.length = m := ⟨_, rfl⟩
      obtain ⟨nY, hnY⟩ : ∃ m, y.L.length = m := ⟨_, rfl⟩
      rw [hnX] at hpx
      rw [hnY] at hpy
      subst hpx
      subst hpy
      clear hnX hnY
      have hin1 : (0 : Int) ≤ (k : Int) := by omega
      have hin2 : (k : Int) < (n : Int) := by omega
      have hw1 : IntKind.i64.wrap ((k : Int) + 1) = (k : Int) + 1 := IntWalk.i64_in _ (by omega)
      obtain ⟨r, hr⟩ : ∃ r, smI x y = r := ⟨_, rfl⟩
      have HSR := Lib.hid (smI_eq (x := x) (y := y))
      rw [hr] at HSM HSR
      clear hr
      cases r with
      | true =>
        have HNX : Hid ((insL a).take (k + 1) = (insL b).take (k + 1)) := by
          show _ = _
          rw [List.take_add_one, List.take_add_one, HT.out, HGA.out, HGB.out, HSR.out.1 rfl]
        go_wp2_with fail
        refine Stab.region 27 [.is (.slice (some ⟨g, off, none⟩) n c), .is (.int .i64 (k : Int)), .is (.pointer (some ⟨g, off + k * 5, none⟩)), .is (.agg #[.int .i64 x.op, .int .i64 x.A, .int .i64 x.B, .int .u64 x.K, .slice PX nX cX]), .is (.slice (some ⟨g', off', none⟩) n d), .is (.int .i64 (k : Int)), .is (.pointer (some ⟨g', off' + k * 5, none⟩)), .is (.agg #[.int .i64 y.op, .int .i64 y.A, .int .i64 y.B, .int .u64 y.K, .slice PY nY cY]), .is (.bool true), .is (.bool (!true))] (by kernel_rfl) (by kernel_rfl) rfl rfl ?_ ?_
        · with_reducible refine Stab.steps_cons ?_ ?_ ?_
          · exact Stab.owes_move rfl rfl rfl
          · exact trivial
          with_reducible refine Stab.steps_cons ?_ ?_ ?_
          · exact Stab.owes_move rfl rfl rfl
          · exact trivial
          with_reducible refine Stab.steps_cons ?_ ?_ ?_
          · exact Stab.owes_indexAt rfl rfl rfl (fun W => bat _ _ _ _ _ W hin1 hin2) rfl
          · exact trivial
          with_reducible refine Stab.steps_cons ?_ ?_ ?_
          · exact Stab.owes_load rfl (fun v W hb hv => by subst hv; exact cellsRun (at_cells (HRA.out.keep (HW.out.trans (hb.mono HW.out.size))) HPA.out)) rfl
          · exact trivial
          with_reducible refine Stab.steps_cons ?_ ?_ ?_
          · exact Stab.owes_move rfl rfl rfl
          · exact trivial
          with_reducible refine Stab.steps_cons ?_ ?_ ?_
          · exact Stab.owes_move rfl rfl rfl
          · exact trivial
          with_reducible refine Stab.steps_cons ?_ ?_ ?_
          · exact Stab.owes_indexAt rfl rfl rfl (fun W => bat _ _ _ _ _ W hin1 hin2) rfl
          · exact trivial
          with_reducible refine Stab.steps_cons ?_ ?_ ?_
          · exact Stab.owes_load rfl (fun v W hb hv => by subst hv; exact cellsRun (at_cells (HRB.out.keep (HW.out.trans (hb.mono HW.out.size))) HPB.out)) rfl
          · exact trivial
          with_reducible refine Stab.steps_cons ?_ ?_ ?_
          · (refine Stab.owes_call Tryd.func40 (by kernel_rfl) (by kernel_rfl) rfl (fun vs W hb hall => ?_) rfl; obtain ⟨_, _, rfl, rfl, _, _, rfl, rfl, rfl⟩ := hall; refine (HSM.out W (HW.out.trans (hb.mono HW.out.size))).mono ?_; rintro e w7 ⟨rfl, hb2⟩; exact ⟨_, rfl, hb2, rfl⟩)
          · exact trivial
          with_reducible refine Stab.steps_cons ?_ ?_ ?_
          · exact Stab.owes_not rfl rfl (fun W => Stab.run_not _ W) rfl
          · exact trivial
          exact Stab.steps_nil
        · intro W hb _
          simp only [Act.put, List.setIfInBounds_toArray, List.set_cons_succ, List.set_cons_zero]
          have HW3 := Lib.hid (HW.out.trans (hb.mono HW.out.size))
          clear hb
          go_wp2_with fail
          go_roundw
          case rel => exact ⟨k + 1, by go_num, hlt, HNX.out, HW3.out⟩
          case measure => simp [intOf]; omega
      | false =>
        have HNO : Hid (¬ insL a = insL b) := fun e => by
          have h1 := HGA.out
          rw [e, HGB.out] at h1
          have h2 := HSR.out.2 (Option.some.inj h1).symm
          cases h2
        go_wp2_with fail
        refine Stab.region 27 [.is (.slice (some ⟨g, off, none⟩) n c), .is (.int .i64 (k : Int)), .is (.pointer (some ⟨g, off + k * 5, none⟩)), .is (.agg #[.int .i64 x.op, .int .i64 x.A, .int .i64 x.B, .int .u64 x.K, .slice PX nX cX]), .is (.slice (some ⟨g', off', none⟩) n d), .is (.int .i64 (k : Int)), .is (.pointer (some ⟨g', off' + k * 5, none⟩)), .is (.agg #[.int .i64 y.op, .int .i64 y.A, .int .i64 y.B, .int .u64 y.K, .slice PY nY cY]), .is (.bool false), .is (.bool (!false))] (by kernel_rfl) (by kernel_rfl) rfl rfl ?_ ?_
        · with_reducible refine Stab.steps_cons ?_ ?_ ?_
          · exact Stab.owes_move rfl rfl rfl
          · exact trivial
          with_reducible refine Stab.steps_cons ?_ ?_ ?_
          · exact Stab.owes_move rfl rfl rfl
          · exact trivial
          with_reducible refine Stab.steps_cons ?_ ?_ ?_
          · exact Stab.owes_indexAt rfl rfl rfl (fun W => bat _ _ _ _ _ W hin1 hin2) rfl
          · exact trivial
          with_reducible refine Stab.steps_cons ?_ ?_ ?_
          · exact Stab.owes_load rfl (fun v W hb hv => by subst hv; exact cellsRun (at_cells (HRA.out.keep (HW.out.trans (hb.mono HW.out.size))) HPA.out)) rfl
          · exact trivial
          with_reducible refine Stab.steps_cons ?_ ?_ ?_
          · exact Stab.owes_move rfl rfl rfl
          · exact trivial
          with_reducible refine Stab.steps_cons ?_ ?_ ?_
          · exact Stab.owes_move rfl rfl rfl
          · exact trivial
          with_reducible refine Stab.steps_cons ?_ ?_ ?_
          · exact Stab.owes_indexAt rfl rfl rfl (fun W => bat _ _ _ _ _ W hin1 hin2) rfl
          · exact trivial
          with_reducible refine Stab.steps_cons ?_ ?_ ?_
          · exact Stab.owes_load rfl (fun v W hb hv => by subst hv; exact cellsRun (at_cells (HRB.out.keep (HW.out.trans (hb.mono HW.out.size))) HPB.out)) rfl
          · exact trivial
          with_reducible refine Stab.steps_cons ?_ ?_ ?_
          · (refine Stab.owes_call Tryd.func40 (by kernel_rfl) (by kernel_rfl) rfl (fun vs W hb hall => ?_) rfl; obtain ⟨_, _, rfl, rfl, _, _, rfl, rfl, rfl⟩ := hall; refine (HSM.out W (HW.out.trans (hb.mono HW.out.size))).mono ?_; rintro e w7 ⟨rfl, hb2⟩; exact ⟨_, rfl, hb2, rfl⟩)
          · exact trivial
          with_reducible refine Stab.steps_cons ?_ ?_ ?_
          · exact Stab.owes_not rfl rfl (fun W => Stab.run_not _ W) rfl
          · exact trivial
          exact Stab.steps_nil
        · intro W hb _
          simp only [Act.put, List.setIfInBounds_toArray, List.set_cons_succ, List.set_cons_zero]
          have HW3 := Lib.hid (HW.out.trans (hb.mono HW.out.size))
          clear hb
          go_wp2_with fail
          exact bodyPost_ret (v := .bool false) (by simp [results, Tryd.results21, go_sem]) rfl ⟨⟨false, rfl, by simpa using HNO.out⟩, HW3.out⟩
    · obtain rfl : k = n := by omega
      have HQ : Hid (insL a = insL b) := by
        have h1 := HT.out
        rw [List.take_of_length_le (by rw [insL_len, N1.out]; exact Nat.le_refl _), List.take_of_length_le (by rw [insL_len, N2.out]; exact Nat.le_refl _)] at h1
        exact h1
      clear hlt
      go_wp2_with fail
      exact bodyPost_ret (v := .bool true) (by simp [results, Tryd.results21, go_sem]) rfl ⟨⟨true, rfl, by simpa using HQ.out⟩, HW.out⟩
theorem bsame_any {a b : List (Ins × Value)} {o p : Value} {w : World} (ha : InRow w o a) (hb : InRow w p b) : Calls Tryd.prog 21 #[o, p] w fun e w' => (∃ r, e = .returned (.bool r) ∧ (r = true ↔ insL a = insL b)) ∧ Below w.heap.size w w' := by
  obtain ⟨⟨P, c, ho, _⟩, _⟩ := id ha
  obtain ⟨⟨Q, d, hp, _⟩, _⟩ := id hb
  subst ho
  subst hp
  by_cases h : a.length = b.length
  · rw [← h] at hb ⊢
    exact bsame_loop rfl h.symm ha hb
  · have HNO := Lib.hid (fun e : insL a = insL b => h (by rw [← insL_len a, e, insL_len]))
    have t1 : ((a.length : Int) != (b.length : Int)) = true := by simp; omega
    generalize a.length = n at t1
    generalize b.length = m at t1
    clear h ha hb
    go_enter Tryd.func21, Tryd.ntmps21
    go_wp2_with fail
    exact bodyPost_ret (v := .bool false) (by simp [results, Tryd.results21, go_sem]) rfl ⟨⟨false, rfl, by simpa using HNO.out⟩, Below.refl _ _⟩
end Go.Proofs.YtdmidagcdhhlhaaDoor.Bod
