/- Law BodyNests, walked. -/
import Derived.Test.YtdmidagcdhhlhaaDoorBodAwake
import Derived.Test.YtdmidagcdhhlhaaDoorBodFew
namespace Go.Proofs.YtdmidagcdhhlhaaDoor.Bod
open Go.RowKit Ints Typ Ins
set_option maxRecDepth 100000
set_option maxHeartbeats 4000000
set_option linter.unusedVariables false
theorem bnests_law (v : Value) (l : List (Ins × Value)) (W : World) (hT : KTab W) (hr : InRow W v l) : Calls Tryd.prog 5 #[v] W fun e w' => e = .returned (.bool true) ∧ Below W.heap.size W w' := by
  obtain ⟨⟨A, c, rfl, hlc, hc9, _⟩, _⟩ := id hr
  obtain ⟨n, hn⟩ : ∃ n, l.length = n := ⟨_, rfl⟩
  rw [hn] at hr hlc ⊢
  have HN := Lib.hid hn
  have HT := Lib.hid hT
  have HR := Lib.hid hr
  clear hn hT hr
  go_enter Tryd.func5, Tryd.ntmps5
  go_wp2_with fail
  refine (up_any HT.out).mono ?_
  rintro e w1 ⟨rfl, hb⟩
  have HB1 := Lib.hid hb
  clear hb
  go_wp2_with fail
  refine (few_any 120 HN.out (HR.out.keep HB1.out)).mono ?_
  rintro e w2 ⟨⟨bf, rfl, hbf⟩, hww⟩
  subst hww
  have HB2 := HB1
  cases bf with
  | false =>
    go_wp2_with fail
    exact bodyPost_ret (v := .bool true) (by simp [results, Tryd.results5, go_sem]) rfl ⟨rfl, HB2.out⟩
  | true =>
    have hfew := (hbf.1 rfl).1
    rw [HN.out] at hfew
    have hn120 : n ≤ 120 := by omega
    clear hfew hbf
    go_wp2_with fail
    refine (matches_any (HT.out.keep HB2.out) HN.out (by omega) (HR.out.keep HB2.out)).mono ?_
    rintro e w3 ⟨hres, hb⟩
    have HB3 := Lib.hid (HB2.out.trans (hb.mono HB2.out.size))
    have HLO : Hid (W.heap.size ≤ w3.heap.size) := HB3.out.size
    clear HB1
    cases hd : dM (opsL l) with
    | none =>
      rw [hd] at hres
      obtain rfl := hres
      have HDD : Hid (dDepths (opsL l) = []) := by show _ = _; unfold dDepths; rw [hd]
      have HNO : Hid (¬ SaneB l) := fun h => by
        obtain ⟨⟨ms, h1⟩, _⟩ := h
        rw [hd] at h1
        cases h1
      clear hd hb
      go_wp2_with fail
      refine (depths_any (HT.out.keep HB3.out) HN.out (by omega) (HR.out.keep HB3.out)).mono ?_
      rintro e w4 ⟨⟨v, rfl, ho⟩, hb⟩
      rw [HDD.out] at ho
      obtain ⟨Pd, cd, rfl⟩ := OwnI.form ho
      have HB4 := Lib.hid (HB3.out.trans (hb.mono HB3.out.size))
      clear ho hb
      go_wp2_with fail
      refine (bsaneP_any (HT.out.keep HB4.out) HN.out (HR.out.keep HB4.out)).mono ?_
      rintro e w5 ⟨⟨b, rfl, hs⟩, hb⟩
      have HB5 := Lib.hid (HB4.out.trans (hb.mono HB4.out.size))
      obtain rfl : b = false := by
        cases b with
        | false => rfl
        | true => exact absurd (hs.1 rfl) HNO.out
      clear hs hb
      go_wp2_with fail
      exact bodyPost_ret (v := .bool true) (by simp [results, Tryd.results5, go_sem]) rfl ⟨rfl, HB5.out⟩
    | some ms =>
      rw [hd] at hres
      have HD := Lib.hid hd
      have HNE := Lib.hid (dM_nested hd)
      have HAT := Lib.hid (dM_at hd)
      obtain ⟨vM, rfl, oM⟩ := hres
      have hml : ms.length = n := by rw [(dM_at hd).1, opsL_len, HN.out]
      obtain ⟨P0, e0, hv0⟩ := OwnP.form oM
      rw [hml] at hv0
      subst hv0
      have HOM := Lib.hid oM
      have HML := Lib.hid hml
      have HCS : Hid (cntE (opsL l) n = cntO (opsL l) n) := by
        have h := cnt_same (dM_nested hd)
        rw [opsL_len, HN.out] at h
        exact h
      have HRW := Lib.hid (HR.out.keep HB3.out)
      have HCB : Hid (∀ k, k ≤ n → cntE (opsL l) k ≤ k ∧ cntO (opsL l) k ≤ k) := fun k _ => by
        induction k with
        | zero => exact ⟨Nat.le_refl _, Nat.le_refl _⟩
        | succ k ih =>
          have ih := ih (by omega)
          simp only [cntE, cntO]
          constructor <;> split <;> omega
      clear hd oM hml hb HR HB2
      go_wp2_with fail
      go_loopw [6, 7, 8] (fun a6 a7 a8 wr => ∃ k : Nat, k ≤ n ∧ a6 = .int .i64 ((cntE (opsL l) k : Nat) : Int) ∧ a7 = .int .i64 ((cntO (opsL l) k : Nat) : Int) ∧ a8 = .int .i64 (k : Int) ∧ Below w3.heap.size w3 wr) (fun _ _ a8 _ => n - (intOf a8).toNat)
      case atStart => exact ⟨0, by omega, rfl, rfl, rfl, Below.refl _ _⟩
      case round =>
        obtain ⟨k, hk, rfl, rfl, rfl, hW⟩ := hrel
        have HW := Lib.hid hW
        clear hW
        by_cases hlt : k < n
        · have t1 : decide ((k : Int) < (n : Int)) = true := decide_eq_true (by omega)
          have HCBK := Lib.hid (HCB.out k hk)
          obtain ⟨y, hy⟩ : ∃ y, l[k]? = some y := ⟨_, List.getElem?_eq_getElem (by rw [HN.out]; exact hlt)⟩
          obtain ⟨g, off, rfl, hC, hO⟩ := (HRW.out.keep HW.out).at_ hy
          have HG := Lib.hid (opsL_get hy)
          obtain ⟨x, ov⟩ := y
          obtain ⟨q1, _, _, _, _⟩ := hC
          simp only at q1
          clear hy hO
          have hE : cntE (opsL l) (k + 1) = if x.op = 11 then cntE (opsL l) k + 1 else cntE (opsL l) k := by rw [← HG.out]; rfl
          have hO' : cntO (opsL l) (k + 1) = if opn x.op = true then cntO (opsL l) k + 1 else cntO (opsL l) k := by rw [← HG.out]; rfl
          have HEE := Lib.hid hE
          have HOO := Lib.hid hO'
          clear hE hO'
          have i1 : (0 : Int) ≤ (k : Int) := by omega
          have i2 : (k : Int) < (n : Int) := by omega
          have wk : IntKind.i64.wrap ((k : Int) + 1) = (k : Int) + 1 := IntWalk.i64_in _ (by omega)
          have we : IntKind.i64.wrap (((cntE (opsL l) k : Nat) : Int) + 1) = ((cntE (opsL l) k : Nat) : Int) + 1 := IntWalk.i64_in _ (by have := HCBK.out; omega)
          have wo : IntKind.i64.wrap (((cntO (opsL l) k : Nat) : Int) + 1) = ((cntO (opsL l) k : Nat) : Int) + 1 := IntWalk.i64_in _ (by have := HCBK.out; omega)
          cases ho : opn x.op with
          | false =>
            have HE : Hid (cntO (opsL l) (k + 1) = cntO (opsL l) k) := by show _ = _; rw [HOO.out, ho]; rfl
            by_cases h11 : x.op = 11
            · have HF : Hid (((cntE (opsL l) (k + 1) : Nat) : Int) = ((cntE (opsL l) k : Nat) : Int) + 1) := by show _ = _; rw [HEE.out, if_pos h11]; omega
              have t2 : (x.op == 11) = true := by simpa using h11
              have t3 : decide (x.op < 2) = false := decide_eq_false (by omega)
              have t4 : decide (4 < x.op) = true := decide_eq_true (by omega)
              clear ho h11 HEE HOO
              go_wp2_with fail
              go_roundw
              case rel => exact ⟨k + 1, hlt, by rw [HF.out], by rw [HE.out], by go_num, HW.out⟩
              case measure => simp [intOf]; omega
            · have HF : Hid (cntE (opsL l) (k + 1) = cntE (opsL l) k) := by show _ = _; rw [HEE.out, if_neg h11]
              have t2 : (x.op == 11) = false := by simpa using h11
              by_cases h2 : x.op < 2
              · have t3 : decide (x.op < 2) = true := decide_eq_true h2
                clear ho h11 h2 HEE HOO
                go_wp2_with fail
                go_roundw
                case rel => exact ⟨k + 1, hlt, by rw [HF.out], by rw [HE.out], by go_num, HW.out⟩
                case measure => simp [intOf]; omega
              · have t3 : decide (x.op < 2) = false := decide_eq_false h2
                have t4 : decide (4 < x.op) = true := decide_eq_true (by unfold opn at ho; simp at ho; omega)
                clear ho h11 h2 HEE HOO
                go_wp2_with fail
                go_roundw
                case rel => exact ⟨k + 1, hlt, by rw [HF.out], by rw [HE.out], by go_num, HW.out⟩
                case measure => simp [intOf]; omega
          | true =>
            have HE : Hid (((cntO (opsL l) (k + 1) : Nat) : Int) = ((cntO (opsL l) k : Nat) : Int) + 1) := by show _ = _; rw [HOO.out, if_pos ho]; omega
            have hopk : 2 ≤ x.op ∧ x.op ≤ 4 := by unfold opn at ho; simpa using ho
            have HF : Hid (cntE (opsL l) (k + 1) = cntE (opsL l) k) := by show _ = _; rw [HEE.out, if_neg (by omega)]
            have t2 : (x.op == 11) = false := by simp; omega
            have t3 : decide (x.op < 2) = false := decide_eq_false (by omega)
            have t4 : decide (4 < x.op) = false := decide_eq_false (by omega)
            have hok : opn ((opsL l).getD k 0) = true := by rw [HG.out]; exact ho
            have hkl : k < (opsL l).length := by rw [opsL_len, HN.out]; exact hlt
            have HOK := Lib.hid hok
            obtain ⟨em, hmk⟩ : ∃ em, ms.getD k (0, 0) = em := ⟨_, rfl⟩
            have hat := HAT.out.2 k hkl hok
            have hcl := nested_closed HNE.out hkl hok
            obtain ⟨en, oe, c1, c2, c3, c4, c5, c6, _⟩ := hcl
            rw [opsL_len, HN.out] at c3
            have hdf : oe = -1 ∨ (x.op = 4 ∧ (k : Int) < oe) := by
              rcases dEnd_facts hkl with q | ⟨e', o', q1, _, _, _, _, q6⟩
              · rw [c1] at q
                simp only [Prod.mk.injEq] at q
                exact .inl q.2
              · rw [c1] at q1
                simp only [Prod.mk.injEq] at q1
                obtain ⟨_, rfl⟩ := q1
                rcases q6 with q6 | ⟨g1, g2, _⟩
                · exact .inl q6
                · rw [HG.out] at g1
                  exact .inr ⟨by simpa using g1, g2⟩
            have HCK := Lib.hid c1
            obtain ⟨gm, cm, hvm, _⟩ := OwnP.shape (own_keep HOM.out HW.out) (j := k) (by rw [HML.out]; exact hlt)
            have m1' := (Value.slice.inj hvm).1
            subst m1'
            clear hvm
            have hcm := OwnP.cells (own_keep HOM.out HW.out) (j := k) (by rw [HML.out]; exact hlt)
            rw [hat, c1] at hcm
            obtain ⟨r1, r2⟩ := hcm
            simp only at r1 r2
            obtain ⟨ye, hye⟩ : ∃ y, l[en]? = some y := ⟨_, List.getElem?_eq_getElem (by rw [HN.out]; exact c3)⟩
            have hCe := at_cells (HRW.out.keep HW.out) hye
            have hGe := opsL_get hye
            rw [c4] at hGe
            obtain ⟨s1, _, _, _, _⟩ := hCe
            rw [← hGe] at s1
            have i3 : (0 : Int) ≤ (en : Int) := by omega
            have i4 : (en : Int) < (n : Int) := by omega
            have t5 : decide ((en : Int) ≤ (k : Int)) = false := decide_eq_false (by omega)
            have t6 : decide ((n : Int) ≤ (en : Int)) = false := decide_eq_false (by omega)
            have t5' : decide (en ≤ k) = false := decide_eq_false (by omega)
            have t6' : decide (n ≤ en) = false := decide_eq_false (by omega)
            clear hye hGe hat hok c4 hmk
            rcases hdf with rfl | ⟨h4, hko⟩
            · clear c5 c6
              go_wp2_with fail
              go_big_quiet (fail)
              have HWq := Lib.hid (HW.out.trans (drewNB _ nq HW.out.size))
              go_wp2_with fail
              go_loopw [9] (fun a9 wr2 => ∃ j : Nat, j ≤ k ∧ a9 = .int .i64 (j : Int) ∧ Below w3.heap.size w3 wr2) (fun a9 _ => k - (intOf a9).toNat)
              case atStart => exact ⟨0, by omega, rfl, HWq.out⟩
              case round =>
                obtain ⟨j, hj, rfl, hW2⟩ := hrel
                have HW2 := Lib.hid hW2
                clear hW2 q1 r1 r2 s1 HW HWq
                by_cases hjk : j < k
                · have t7 : decide ((j : Int) < (k : Int)) = true := decide_eq_true (by omega)
                  obtain ⟨yj, hyj⟩ : ∃ y, l[j]? = some y := ⟨_, List.getElem?_eq_getElem (by rw [HN.out]; omega)⟩
                  have hCj := at_cells (HRW.out.keep HW2.out) hyj
                  have hGj := opsL_get hyj
                  obtain ⟨z, oz⟩ := yj
                  obtain ⟨v1, _, _, _, _⟩ := hCj
                  simp only at v1 hGj
                  have hmj := OwnP.cells (own_keep HOM.out HW2.out) (j := j) (by rw [HML.out]; omega)
                  have hmk := OwnP.cells (own_keep HOM.out HW2.out) (j := k) (by rw [HML.out]; omega)
                  obtain ⟨_, u2⟩ := hmj
                  obtain ⟨_, r2⟩ := hmk
                  rw [HAT.out.2 k (by rw [opsL_len, HN.out]; omega) HOK.out, HCK.out] at r2
                  simp only at r2
                  have HNEST : Hid (opn z.op = true → (k : Int) < (ms.getD j (0, 0)).2 → (en : Int) < (ms.getD j (0, 0)).2) := fun a1 a2 => by
                    have hoj : opn ((opsL l).getD j 0) = true := by rw [hGj]; exact a1
                    rw [HAT.out.2 j (by rw [opsL_len, HN.out]; omega) hoj] at a2 ⊢
                    have := ends_nest HNE.out hjk (by rw [opsL_len, HN.out]; omega) hoj HOK.out a2
                    rw [HCK.out] at this
                    exact this
                  generalize (ms.getD j (0, 0)).2 = ej at u2 HNEST
                  have i5 : (0 : Int) ≤ (j : Int) := by omega
                  have i6 : (j : Int) < (n : Int) := by omega
                  have wj : IntKind.i64.wrap ((j : Int) + 1) = (j : Int) + 1 := IntWalk.i64_in _ (by omega)
                  clear hyj hGj
                  by_cases a1 : 2 ≤ z.op
                  · have t8 : decide (2 ≤ z.op) = true := decide_eq_true a1
                    by_cases a2 : z.op ≤ 4
                    · have t9 : decide (z.op ≤ 4) = true := decide_eq_true a2
                      by_cases a3 : (k : Int) < ej
                      · have t10 : decide ((k : Int) < ej) = true := decide_eq_true a3
                        have t11 : decide (ej ≤ (en : Int)) = false := decide_eq_false (by have := HNEST.out (by unfold opn; simp; omega) a3; omega)
                        clear a1 a2 a3 HNEST
                        go_wp2_with fail
                        go_quiet (fail)
                        go_wp2_with fail
                        go_roundw
                        case rel => exact ⟨j + 1, hjk, by go_num, HW2.out.trans (drewNB _ _ HW2.out.size)⟩
                        case measure => simp [intOf]; omega
                      · have t10 : decide ((k : Int) < ej) = false := decide_eq_false a3
                        clear a1 a2 a3 HNEST
                        go_wp2_with fail
                        go_quiet (fail)
                        go_wp2_with fail
                        go_roundw
                        case rel => exact ⟨j + 1, hjk, by go_num, HW2.out.trans (drewNB _ _ HW2.out.size)⟩
                        case measure => simp [intOf]; omega
                    · have t9 : decide (z.op ≤ 4) = false := decide_eq_false a2
                      clear a1 a2 HNEST
                      go_wp2_with fail
                      go_quiet (fail)
                      go_wp2_with fail
                      go_roundw
                      case rel => exact ⟨j + 1, hjk, by go_num, HW2.out.trans (drewNB _ _ HW2.out.size)⟩
                      case measure => simp [intOf]; omega
                  · have t8 : decide (2 ≤ z.op) = false := decide_eq_false a1
                    clear a1 HNEST
                    go_wp2_with fail
                    go_quiet (fail)
                    go_wp2_with fail
                    go_roundw
                    case rel => exact ⟨j + 1, hjk, by go_num, HW2.out.trans (drewNB _ _ HW2.out.size)⟩
                    case measure => simp [intOf]; omega
                · have t7 : decide ((j : Int) < (k : Int)) = false := decide_eq_false (by omega)
                  go_wp2_with fail
                  go_roundw
                  case rel => exact ⟨k + 1, hlt, by rw [HF.out], by rw [HE.out], by go_num, HW2.out⟩
                  case measure => simp [intOf]; omega
            · have t12 : (oe != -1) = true := by simp; omega
              have t13 : decide (oe ≤ (k : Int)) = false := decide_eq_false (by omega)
              have t14 : decide ((en : Int) ≤ oe) = false := decide_eq_false (by omega)
              have t15 : (x.op != 4) = false := by simp [h4]
              clear c5 c6 hko h4
              go_wp2_with fail
              go_big_quiet (fail)
              have HWq := Lib.hid (HW.out.trans (drewNB _ nq HW.out.size))
              go_wp2_with fail
              go_loopw [9] (fun a9 wr2 => ∃ j : Nat, j ≤ k ∧ a9 = .int .i64 (j : Int) ∧ Below w3.heap.size w3 wr2) (fun a9 _ => k - (intOf a9).toNat)
              case atStart => exact ⟨0, by omega, rfl, HWq.out⟩
              case round =>
                obtain ⟨j, hj, rfl, hW2⟩ := hrel
                have HW2 := Lib.hid hW2
                clear hW2 q1 r1 r2 s1 HW HWq
                by_cases hjk : j < k
                · have t7 : decide ((j : Int) < (k : Int)) = true := decide_eq_true (by omega)
                  obtain ⟨yj, hyj⟩ : ∃ y, l[j]? = some y := ⟨_, List.getElem?_eq_getElem (by rw [HN.out]; omega)⟩
                  have hCj := at_cells (HRW.out.keep HW2.out) hyj
                  have hGj := opsL_get hyj
                  obtain ⟨z, oz⟩ := yj
                  obtain ⟨v1, _, _, _, _⟩ := hCj
                  simp only at v1 hGj
                  have hmj := OwnP.cells (own_keep HOM.out HW2.out) (j := j) (by rw [HML.out]; omega)
                  have hmk := OwnP.cells (own_keep HOM.out HW2.out) (j := k) (by rw [HML.out]; omega)
                  obtain ⟨_, u2⟩ := hmj
                  obtain ⟨_, r2⟩ := hmk
                  rw [HAT.out.2 k (by rw [opsL_len, HN.out]; omega) HOK.out, HCK.out] at r2
                  simp only at r2
                  have HNEST : Hid (opn z.op = true → (k : Int) < (ms.getD j (0, 0)).2 → (en : Int) < (ms.getD j (0, 0)).2) := fun a1 a2 => by
                    have hoj : opn ((opsL l).getD j 0) = true := by rw [hGj]; exact a1
                    rw [HAT.out.2 j (by rw [opsL_len, HN.out]; omega) hoj] at a2 ⊢
                    have := ends_nest HNE.out hjk (by rw [opsL_len, HN.out]; omega) hoj HOK.out a2
                    rw [HCK.out] at this
                    exact this
                  generalize (ms.getD j (0, 0)).2 = ej at u2 HNEST
                  have i5 : (0 : Int) ≤ (j : Int) := by omega
                  have i6 : (j : Int) < (n : Int) := by omega
                  have wj : IntKind.i64.wrap ((j : Int) + 1) = (j : Int) + 1 := IntWalk.i64_in _ (by omega)
                  clear hyj hGj
                  by_cases a1 : 2 ≤ z.op
                  · have t8 : decide (2 ≤ z.op) = true := decide_eq_true a1
                    by_cases a2 : z.op ≤ 4
                    · have t9 : decide (z.op ≤ 4) = true := decide_eq_true a2
                      by_cases a3 : (k : Int) < ej
                      · have t10 : decide ((k : Int) < ej) = true := decide_eq_true a3
                        have t11 : decide (ej ≤ (en : Int)) = false := decide_eq_false (by have := HNEST.out (by unfold opn; simp; omega) a3; omega)
                        clear a1 a2 a3 HNEST
                        go_wp2_with fail
                        go_quiet (fail)
                        go_wp2_with fail
                        go_roundw
                        case rel => exact ⟨j + 1, hjk, by go_num, HW2.out.trans (drewNB _ _ HW2.out.size)⟩
                        case measure => simp [intOf]; omega
                      · have t10 : decide ((k : Int) < ej) = false := decide_eq_false a3
                        clear a1 a2 a3 HNEST
                        go_wp2_with fail
                        go_quiet (fail)
                        go_wp2_with fail
                        go_roundw
                        case rel => exact ⟨j + 1, hjk, by go_num, HW2.out.trans (drewNB _ _ HW2.out.size)⟩
                        case measure => simp [intOf]; omega
                    · have t9 : decide (z.op ≤ 4) = false := decide_eq_false a2
                      clear a1 a2 HNEST
                      go_wp2_with fail
                      go_quiet (fail)
                      go_wp2_with fail
                      go_roundw
                      case rel => exact ⟨j + 1, hjk, by go_num, HW2.out.trans (drewNB _ _ HW2.out.size)⟩
                      case measure => simp [intOf]; omega
                  · have t8 : decide (2 ≤ z.op) = false := decide_eq_false a1
                    clear a1 HNEST
                    go_wp2_with fail
                    go_quiet (fail)
                    go_wp2_with fail
                    go_roundw
                    case rel => exact ⟨j + 1, hjk, by go_num, HW2.out.trans (drewNB _ _ HW2.out.size)⟩
                    case measure => simp [intOf]; omega
                · have t7 : decide ((j : Int) < (k : Int)) = false := decide_eq_false (by omega)
                  go_wp2_with fail
                  go_roundw
                  case rel => exact ⟨k + 1, hlt, by rw [HF.out], by rw [HE.out], by go_num, HW2.out⟩
                  case measure => simp [intOf]; omega
        · have hkn : k = n := by omega
          subst hkn
          have t1 : decide ((k : Int) < (k : Int)) = false := decide_eq_false (by omega)
          rw [HCS.out]
          go_wp2_with fail
          exact bodyPost_ret (v := .bool true) (by simp [results, Tryd.results5, go_sem]) rfl ⟨rfl, HB3.out.trans (HW.out.mono HLO.out)⟩
end Go.Proofs.YtdmidagcdhhlhaaDoor.Bod
