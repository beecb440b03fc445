/- BodMatch, BodRound, BodAround. -/
import Derived.Test.YtlappkflnlbfcaaGreatDoorPkBodEnd
import Derived.Test.YtlappkflnlbfcaaGreatDoorPkBodFew
section
/- The document's Matches, walked. -/
namespace Go.Proofs.YtlappkflnlbfcaaGreatDoor.Bod
open Go.RowKit Ints Typ Ins
set_option maxRecDepth 100000
set_option maxHeartbeats 1000000
set_option linter.unusedVariables false

/-- What Matches tells. -/
def MRes (e : Ending) (w : World) (B : Nat) : Option (List (Int × Int)) → Prop
  | some ms => ∃ g, e = .returned (.tuple #[.slice (some ⟨g, 0, none⟩) ms.length ms.length, .bool true]) ∧ MAt w B g ms.length ms
  | none => e = .returned (.tuple #[.slice none 0 0, .bool false])
theorem m2_none {ops : List Int} {k : Nat} (h : m2 ops k = none) : ∀ j, k ≤ j → m2 ops j = none
  | 0, hj => by obtain rfl : k = 0 := by omega
                exact h
  | j + 1, hj => by
    by_cases e : k = j + 1
    · subst e; exact h
    · show (m2 ops j).bind (mst ops j) = none
      rw [m2_none h j (by omega)]
      rfl
theorem m2_next {ops : List Int} {k : Nat} {s : List (Int × Int) × List Bool} (h : m2 ops k = some s) : m2 ops (k + 1) = mst ops k s := by
  show (m2 ops k).bind (mst ops k) = _
  rw [h]
  rfl
theorem dM_none {ops : List Int} {k : Nat} (hk : k ≤ ops.length) (h : m2 ops k = none) : dM ops = none := by
  unfold dM
  rw [m2_none h _ hk]
  rfl
theorem fill_set {n i : Nat} (hi : i < n) {α : Type} (a b : α) : (List.replicate i a ++ List.replicate (n - i) b).set i a = List.replicate (i + 1) a ++ List.replicate (n - (i + 1)) b := by
  rw [List.set_append_right _ _ (by simp), List.length_replicate, Nat.sub_self, show n - i = (n - (i + 1)) + 1 from by omega, List.replicate_succ, List.set_cons_zero, List.replicate_succ', List.append_assoc]
  rfl
theorem dM_yes {ops : List Int} {n : Nat} {ms : List (Int × Int)} {us : List Bool} (hn : ops.length = n) (h : m2 ops n = some (ms, us)) (hu : ∀ q, q < n → (!(ops.getD q 0 == 5 || ops.getD q 0 == 11) || us.getD q false) = true) : dM ops = some ms := by
  subst hn
  have e : usedOk ops us = true := by
    unfold usedOk
    rw [List.all_eq_true]
    exact fun q hq => hu q (List.mem_range.1 hq)
  unfold dM
  rw [h, Option.bind_some, if_pos e]
theorem dM_no {ops : List Int} {n : Nat} {ms : List (Int × Int)} {us : List Bool} (hn : ops.length = n) (h : m2 ops n = some (ms, us)) {q : Nat} (hq : q < n) (h1 : (ops.getD q 0 == 5 || ops.getD q 0 == 11) = true) (h2 : us.getD q false = false) : dM ops = none := by
  subst hn
  have e : ¬ usedOk ops us = true := by
    unfold usedOk
    rw [List.all_eq_true]
    intro hh
    have := hh q (List.mem_range.2 hq)
    rw [h1, h2] at this
    cases this
  unfold dM
  rw [h, Option.bind_some, if_neg e]
theorem rmatches_any {l : List (Ins × Value)} {A : Option Addr} {g off n c : Nat} {w : World} (hn : l.length = n) (hbig : n ≤ 100000) (hA : n ≠ 0 → A = some ⟨g, off, none⟩) (hr : InRow w (.slice A n c) l) :
    Calls Tryz.prog 48 #[.slice A n c] w fun e w' => MRes e w' w.heap.size (dM (opsL l)) ∧ Below w.heap.size w w' := by
  obtain ⟨W1, g1, hmk1, hM1, hg1, hs1⟩ := make_M w w.heap.size n hbig (Nat.le_refl _)
  obtain ⟨W2, g2, hmk2, hU2, hg2, hs2⟩ := make_U W1 w.heap.size n hbig hg1.size
  have hb1 : Below w.heap.size w W1 := (Below.refl _ _).grown hg1 (Nat.le_refl _) (fun k hk => by cases hk)
  have HB2 := Lib.hid (hb1.grown hg2 hb1.size (fun k hk => by cases hk))
  have HM2 : Hid (MAt W2 w.heap.size g1 n (List.replicate n (0, 0))) := ⟨hM1.1, hM1.2.kept hg2 (by simp [Value.ownBlock])⟩
  have HU2 := Lib.hid hU2
  have HNE : Hid (g1 ≠ g2) := by
    show _ ≠ _
    have := hM1.lt
    omega
  have HG1 : Hid (w.heap.size ≤ g1) := hs1
  have HG2 : Hid (w.heap.size ≤ g2) := Nat.le_trans hg1.size hs2
  clear hM1 hU2 hg1 hg2 hs1 hs2 hb1
  have HR := Lib.hid hr
  have HN := Lib.hid hn
  have HA := Lib.hid hA
  clear hr hn hA
  go_enter Tryz.func48, Tryz.ntmps48
  go_wp2_with fail
  clear hmk1 hmk2
  go_loopw [6] (fun i' wr => ∃ i : Nat, i' = .int .i64 (i : Int) ∧ i ≤ n ∧ Below w.heap.size w wr ∧ MAt wr w.heap.size g1 n (List.replicate i (-1, -1) ++ List.replicate (n - i) (0, 0)) ∧ UAt wr w.heap.size g2 n (List.replicate n false)) (fun i' _ => n - (intOf i').toNat)
  case atStart => exact ⟨0, by go_num, by omega, HB2.out, by simpa using HM2.out, HU2.out⟩
  case round =>
    clear HB2 HM2 HU2 W1 W2
    obtain ⟨i, rfl, hi, hW, hM, hU⟩ := hrel
    have HW := Lib.hid hW
    have HM := Lib.hid hM
    have HU := Lib.hid hU
    clear hW hM hU
    by_cases hlt : i < n
    · obtain ⟨⟨⟨x1, hc1⟩, hf1⟩, ⟨x2, hc2⟩, hf2⟩ := HM.out.two hlt (.int .i64 (-1))
      have hw1 : IntKind.i64.wrap ((i : Int) + 1) = (i : Int) + 1 := IntWalk.i64_in _ (by omega)
      have hin1 : (0 : Int) ≤ (i : Int) := by omega
      have hin2 : (i : Int) < (n : Int) := by omega
      go_wp2_with fail
      go_roundw
      case rel => exact ⟨i + 1, by go_num, hlt, (HW.out.setCell HG1.out _).setCell HG1.out _, by rw [← fill_set hlt]; exact HM.out.put i hlt (-1) (-1), (HU.out.other HNE.out.symm _ _).other HNE.out.symm _ _⟩
      case measure => simp [intOf]; omega
    · obtain rfl : i = n := by omega
      have HM := Lib.hid (show MAt wr w.heap.size g1 i (List.replicate i (-1, -1)) by simpa using HM.out)
      go_wp2_with fail
      clear hlt
      go_loopw [7] (fun k' wq => ∃ (k : Nat) (ms : List (Int × Int)) (us : List Bool), k' = .int .i64 (k : Int) ∧ k ≤ i ∧ Below w.heap.size w wq ∧ MAt wq w.heap.size g1 i ms ∧ UAt wq w.heap.size g2 i us ∧ m2 (opsL l) k = some (ms, us)) (fun k' _ => i - (intOf k').toNat)
      case atStart => exact ⟨0, _, _, by go_num, by omega, HW.out, HM.out, HU.out, by show some _ = _; rw [opsL_len, HN.out]⟩
      case round =>
        clear HM HW HU
        obtain ⟨k, ms, us, rfl, hk, hW, hM, hU, hm⟩ := hrel
        have HW := Lib.hid hW
        have HM := Lib.hid hM
        have HU := Lib.hid hU
        have HMS := Lib.hid hm
        clear hW hM hU hm
        by_cases hlt : k < i
        · have hA' := HA.out (by omega)
          subst hA'
          obtain ⟨p, hp⟩ : ∃ p, l[k]? = some p := ⟨_, List.getElem?_eq_getElem (by rw [HN.out]; exact hlt)⟩
          have hOk := HR.out.2 _ (List.mem_of_getElem? hp)
          obtain ⟨PL, cL, hpo, _⟩ := id hOk.1
          have HC := Lib.hid (at_cells (HR.out.keep HW.out) hp)
          have HG := Lib.hid (opsL_get hp)
          have HX := Lib.hid (m2_next HMS.out)
          obtain ⟨x, ov⟩ := p
          simp only at hpo
          obtain ⟨nL, hnL⟩ : ∃ nL, x.L.length = nL := ⟨_, rfl⟩
          rw [hnL] at hpo
          subst hpo
          clear hOk hp hnL
          obtain ⟨q1, q2, q3, q4, q5⟩ := HC.out
          simp only at q1 q2 q3 q4 q5
          have hin1 : (0 : Int) ≤ (k : Int) := by omega
          have hin2 : (k : Int) < (i : Int) := by omega
          have hw1 : IntKind.i64.wrap ((k : Int) + 1) = (k : Int) + 1 := IntWalk.i64_in _ (by omega)
          by_cases hop : opn x.op = true
          · have HOP : Hid (∀ W, Calls Tryz.prog 79 #[.agg #[.int .i64 x.op, .int .i64 x.A, .int .i64 x.B, .int .u64 x.K, .slice PL nL cL]] W fun e w' => e = .returned (.bool true) ∧ Below W.heap.size W w') := fun W => by have := opens_any x.op x.A x.B x.K PL nL cL W; rwa [hop] at this
            have HX : Hid (m2 (opsL l) (k + 1) = if (dEnd (opsL l) k).1 < 0 then none else if 0 ≤ (dEnd (opsL l) k).2 then some ((ms.set k ((dEnd (opsL l) k).2, (dEnd (opsL l) k).1)).set (dEnd (opsL l) k).2.toNat (-1, (dEnd (opsL l) k).1), (us.set (dEnd (opsL l) k).1.toNat true).set (dEnd (opsL l) k).2.toNat true) else some (ms.set k ((dEnd (opsL l) k).2, (dEnd (opsL l) k).1), us.set (dEnd (opsL l) k).1.toNat true)) := by
              show _ = _
              have h := HX.out
              unfold mst at h
              rw [HG.out, if_pos hop] at h
              exact h
            have HE : Hid (∀ W, InRow W (.slice (some ⟨g, off, none⟩) i c) l → Calls Tryz.prog 80 #[.slice (some ⟨g, off, none⟩) i c, .int .i64 (k : Int)] W fun e w' => e = .returned (.tuple #[.int .i64 (dEnd (opsL l) k).1, .int .i64 (dEnd (opsL l) k).2]) ∧ Below W.heap.size W w') := fun W hW => end_any HN.out hW k hlt
            have HF := Lib.hid (dEnd_facts (ops := opsL l) (k := k) (by rw [opsL_len, HN.out]; exact hlt))
            clear hop
            generalize dEnd (opsL l) k = de at HX HE HF
            rcases HF.out with rfl | ⟨e, o, rfl, h1, h2, h3, h4, h5⟩
            · have HX := Lib.hid (show m2 (opsL l) (k + 1) = none by have h := HX.out; rwa [if_pos (by decide)] at h)
              go_wp2_with fail
              refine (HOP.out _).mono ?_
              rintro e w2 ⟨rfl, hb⟩
              have HW2 := Lib.hid (HW.out.trans (hb.mono HW.out.size))
              clear hb q1 q2 q3 q4 q5
              go_wp2_with fail
              refine (HE.out _ (HR.out.keep HW2.out)).mono ?_
              rintro e w3 ⟨rfl, hb⟩
              have HW3 := Lib.hid (HW2.out.trans (hb.mono HW2.out.size))
              clear hb
              go_wp2_with fail
              refine bodyPost_ret (v := .tuple #[.slice none 0 0, .bool false]) (by simp [results, Tryz.results48, go_sem]) rfl ⟨?_, HW3.out⟩
              rw [dM_none (k := k + 1) (by rw [opsL_len, HN.out]; exact hlt) HX.out]
              exact rfl
            · rw [opsL_len, HN.out] at h2
              have HX := Lib.hid (show m2 (opsL l) (k + 1) = if 0 ≤ o then some ((ms.set k (o, (e : Int))).set o.toNat (-1, (e : Int)), (us.set e true).set o.toNat true) else some (ms.set k (o, (e : Int)), us.set e true) by
                have h := HX.out
                rw [if_neg (by simp)] at h
                simpa using h)
              have t1 : decide ((e : Int) < 0) = false := decide_eq_false (by omega)
              have hin3 : (0 : Int) ≤ (e : Int) := by omega
              have hin4 : (e : Int) < (i : Int) := by omega
              by_cases ho : 0 ≤ o
              · obtain ⟨on, rfl⟩ : ∃ on : Nat, o = (on : Int) := ⟨o.toNat, by omega⟩
                have HX := Lib.hid (show m2 (opsL l) (k + 1) = some ((ms.set k ((on : Int), (e : Int))).set on (-1, (e : Int)), (us.set e true).set on true) by
                  have h := HX.out
                  rw [if_pos ho, Int.toNat_natCast] at h
                  exact h)
                have t2 : decide ((0 : Int) ≤ (on : Int)) = true := decide_eq_true ho
                have hon : on < i := by omega
                have hin5 : (on : Int) < (i : Int) := by omega
                clear h1 h3 h4 h5
                go_wp2_with fail
                refine (HOP.out _).mono ?_
                rintro e' w2 ⟨rfl, hb⟩
                have HW2 := Lib.hid (HW.out.trans (hb.mono HW.out.size))
                have HM2 := Lib.hid (HM.out.keep hb)
                have HU2 := Lib.hid (HU.out.keep hb)
                clear hb q1 q2 q3 q4 q5
                go_wp2_with fail
                refine (HE.out _ (HR.out.keep HW2.out)).mono ?_
                rintro e' w3 ⟨rfl, hb⟩
                have HW3 := Lib.hid (HW2.out.trans (hb.mono HW2.out.size))
                have HM3 := Lib.hid (HM2.out.keep hb)
                have HU3 := Lib.hid (HU2.out.keep hb)
                clear hb
                have HM4 := Lib.hid ((HM3.out.put k hlt (on : Int) (e : Int)).other HNE.out e (.bool true))
                have HU4 := Lib.hid ((((HU3.out.other HNE.out.symm (k * 2) (.int .i64 (on : Int))).other HNE.out.symm (k * 2 + 1) (.int .i64 (e : Int)))).put e true)
                have HMZ := Lib.hid ((HM4.out.put on hon (-1) (e : Int)).other HNE.out on (.bool true))
                have HUZ := Lib.hid ((((HU4.out.other HNE.out.symm (on * 2) (.int .i64 (-1))).other HNE.out.symm (on * 2 + 1) (.int .i64 (e : Int)))).put on true)
                have HWZ := Lib.hid (((((((HW3.out.setCell HG1.out (p := ⟨g1, k * 2, none⟩) (.int .i64 (on : Int))).setCell HG1.out (p := ⟨g1, k * 2 + 1, none⟩) (.int .i64 (e : Int))).setCell HG2.out (p := ⟨g2, e, none⟩) (.bool true)).setCell HG1.out (p := ⟨g1, on * 2, none⟩) (.int .i64 (-1))).setCell HG1.out (p := ⟨g1, on * 2 + 1, none⟩) (.int .i64 (e : Int)))).setCell HG2.out (p := ⟨g2, on, none⟩) (.bool true))
                obtain ⟨⟨⟨x1, hc1⟩, hf1⟩, ⟨x2, hc2⟩, hf2⟩ := HM3.out.two hlt (.int .i64 (on : Int))
                have HU3a := Lib.hid ((HU3.out.other HNE.out.symm (k * 2) (.int .i64 (on : Int))).other HNE.out.symm (k * 2 + 1) (.int .i64 (e : Int)))
                have hc3 := HU3a.out.cell h2
                have hf3 := HU3a.out.free e
                obtain ⟨⟨⟨x4, hc4⟩, hf4⟩, ⟨x5, hc5⟩, hf5⟩ := HM4.out.two hon (.int .i64 (-1))
                have HU4a := Lib.hid ((HU4.out.other HNE.out.symm (on * 2) (.int .i64 (-1))).other HNE.out.symm (on * 2 + 1) (.int .i64 (e : Int)))
                have hc6 := HU4a.out.cell hon
                have hf6 := HU4a.out.free on
                go_wp2_with fail
                go_roundw
                case rel => exact ⟨k + 1, _, _, by go_num, hlt, HWZ.out, HMZ.out, HUZ.out, HX.out⟩
                case measure => simp [intOf]; omega
              · have HY := Lib.hid (show m2 (opsL l) (k + 1) = some (ms.set k (o, (e : Int)), us.set e true) by
                  have h := HX.out
                  rwa [if_neg ho] at h)
                clear HX
                have t2 : decide ((0 : Int) ≤ o) = false := decide_eq_false ho
                clear h1 h3 h4 h5
                go_wp2_with fail
                refine (HOP.out _).mono ?_
                rintro e' w2 ⟨rfl, hb⟩
                have HW2 := Lib.hid (HW.out.trans (hb.mono HW.out.size))
                have HM2 := Lib.hid (HM.out.keep hb)
                have HU2 := Lib.hid (HU.out.keep hb)
                clear hb q1 q2 q3 q4 q5
                go_wp2_with fail
                refine (HE.out _ (HR.out.keep HW2.out)).mono ?_
                rintro e' w3 ⟨rfl, hb⟩
                have HW3 := Lib.hid (HW2.out.trans (hb.mono HW2.out.size))
                have HM3 := Lib.hid (HM2.out.keep hb)
                have HU3 := Lib.hid (HU2.out.keep hb)
                clear hb
                have HWZ := Lib.hid (((HW3.out.setCell HG1.out (p := ⟨g1, k * 2, none⟩) (.int .i64 o)).setCell HG1.out (p := ⟨g1, k * 2 + 1, none⟩) (.int .i64 (e : Int))).setCell HG2.out (p := ⟨g2, e, none⟩) (.bool true))
                have HMZ := Lib.hid ((HM3.out.put k hlt o (e : Int)).other HNE.out e (.bool true))
                have HUZ := Lib.hid ((((HU3.out.other HNE.out.symm (k * 2) (.int .i64 o)).other HNE.out.symm (k * 2 + 1) (.int .i64 (e : Int)))).put e true)
                obtain ⟨⟨⟨x1, hc1⟩, hf1⟩, ⟨x2, hc2⟩, hf2⟩ := HM3.out.two hlt (.int .i64 o)
                have HU3a := Lib.hid ((HU3.out.other HNE.out.symm (k * 2) (.int .i64 o)).other HNE.out.symm (k * 2 + 1) (.int .i64 (e : Int)))
                have hc3 := HU3a.out.cell h2
                have hf3 := HU3a.out.free e
                go_wp2_with fail
                go_roundw
                case rel => exact ⟨k + 1, _, _, by go_num, hlt, HWZ.out, HMZ.out, HUZ.out, HY.out⟩
                case measure => simp [intOf]; omega
          · have hop : opn x.op = false := by simpa using hop
            have HOP : Hid (∀ W, Calls Tryz.prog 79 #[.agg #[.int .i64 x.op, .int .i64 x.A, .int .i64 x.B, .int .u64 x.K, .slice PL nL cL]] W fun e w' => e = .returned (.bool false) ∧ Below W.heap.size W w') := fun W => by have := opens_any x.op x.A x.B x.K PL nL cL W; rwa [hop] at this
            have HX : Hid (m2 (opsL l) (k + 1) = some (ms, us)) := by
              show _ = _
              have h := HX.out
              unfold mst at h
              rw [HG.out, hop, if_neg (by decide)] at h
              exact h
            clear hop
            go_wp2_with fail
            refine (HOP.out _).mono ?_
            rintro e w2 ⟨rfl, hb⟩
            have HW2 := Lib.hid (HW.out.trans (hb.mono HW.out.size))
            have HM2 := Lib.hid (HM.out.keep hb)
            have HU2 := Lib.hid (HU.out.keep hb)
            clear hb q1 q2 q3 q4 q5
            go_wp2_with fail
            go_roundw
            case rel => exact ⟨k + 1, ms, us, by go_num, hlt, HW2.out, HM2.out, HU2.out, HX.out⟩
            case measure => simp [intOf]; omega
        · obtain rfl : k = i := by omega
          go_wp2_with fail
          clear hlt
          go_loopw [10] (fun j' wq => ∃ j : Nat, j' = .int .i64 (j : Int) ∧ j ≤ k ∧ Below w.heap.size w wq ∧ MAt wq w.heap.size g1 k ms ∧ UAt wq w.heap.size g2 k us ∧ ∀ q, q < j → (!((opsL l).getD q 0 == 5 || (opsL l).getD q 0 == 11) || us.getD q false) = true) (fun j' _ => k - (intOf j').toNat)
          case atStart => exact ⟨0, by go_num, by omega, HW.out, HM.out, HU.out, fun q hq => absurd hq (by omega)⟩
          case round =>
            clear HW HM HU
            obtain ⟨j, rfl, hj, hW, hM, hU, hall⟩ := hrel
            have HW := Lib.hid hW
            have HM := Lib.hid hM
            have HU := Lib.hid hU
            have HALL := Lib.hid hall
            clear hW hM hU hall
            by_cases hlt : j < k
            · have hA' := HA.out (by omega)
              subst hA'
              obtain ⟨p, hp⟩ : ∃ p, l[j]? = some p := ⟨_, List.getElem?_eq_getElem (by rw [HN.out]; exact hlt)⟩
              have HC := Lib.hid (at_cells (HR.out.keep HW.out) hp)
              have HG := Lib.hid (opsL_get hp)
              obtain ⟨x, ov⟩ := p
              clear hp
              obtain ⟨q1, q2, q3, q4, q5⟩ := HC.out
              clear q2 q3 q4 q5
              simp only at q1
              have hin1 : (0 : Int) ≤ (j : Int) := by omega
              have hin2 : (j : Int) < (k : Int) := by omega
              have hw1 : IntKind.i64.wrap ((j : Int) + 1) = (j : Int) + 1 := IntWalk.i64_in _ (by omega)
              have hcu := HU.out.cell hlt
              have HNX : Hid ((!(x.op == 5 || x.op == 11) || us.getD j false) = true → ∀ q, q < j + 1 → (!((opsL l).getD q 0 == 5 || (opsL l).getD q 0 == 11) || us.getD q false) = true) := fun hh q hq => by
                by_cases e : q = j
                · subst e
                  rw [HG.out]
                  exact hh
                · exact HALL.out q (by omega)
              obtain ⟨u, hu⟩ : ∃ u, us.getD j false = u := ⟨_, rfl⟩
              obtain ⟨b5, t1⟩ : ∃ b, (x.op == 5) = b := ⟨_, rfl⟩
              obtain ⟨b11, t2⟩ : ∃ b, (x.op == 11) = b := ⟨_, rfl⟩
              rw [hu] at hcu HNX
              have HUU := Lib.hid hu
              clear hu
              rw [t1, t2] at HNX
              have HT1 := Lib.hid t1
              have HT2 := Lib.hid t2
              cases b5 with
              | true =>
                clear t2
                cases u with
                | true =>
                  have HNX := Lib.hid (HNX.out (by cases b11 <;> rfl))
                  go_wp2_with fail
                  go_roundw
                  case rel => exact ⟨j + 1, by go_num, hlt, HW.out, HM.out, HU.out, HNX.out⟩
                  case measure => simp [intOf]; omega
                | false =>
                  go_wp2_with fail
                  refine bodyPost_ret (v := .tuple #[.slice none 0 0, .bool false]) (by simp [results, Tryz.results48, go_sem]) rfl ⟨?_, HW.out⟩
                  rw [dM_no (by rw [opsL_len, HN.out]) HMS.out hlt (by rw [HG.out]; simp only [HT1.out]; rfl) HUU.out]
                  exact rfl
              | false =>
                cases b11 with
                | true =>
                  cases u with
                  | true =>
                    have HNX := Lib.hid (HNX.out rfl)
                    go_wp2_with fail
                    go_roundw
                    case rel => exact ⟨j + 1, by go_num, hlt, HW.out, HM.out, HU.out, HNX.out⟩
                    case measure => simp [intOf]; omega
                  | false =>
                    go_wp2_with fail
                    refine bodyPost_ret (v := .tuple #[.slice none 0 0, .bool false]) (by simp [results, Tryz.results48, go_sem]) rfl ⟨?_, HW.out⟩
                    rw [dM_no (by rw [opsL_len, HN.out]) HMS.out hlt (by rw [HG.out]; simp only [HT1.out, HT2.out]; rfl) HUU.out]
                    exact rfl
                | false =>
                  have HNX := Lib.hid (HNX.out (by cases u <;> rfl))
                  clear hcu
                  go_wp2_with fail
                  go_roundw
                  case rel => exact ⟨j + 1, by go_num, hlt, HW.out, HM.out, HU.out, HNX.out⟩
                  case measure => simp [intOf]; omega
            · obtain rfl : j = k := by omega
              go_wp2_with fail
              refine bodyPost_ret (v := .tuple #[.slice (some ⟨g1, 0, none⟩) j j, .bool true]) (by simp [results, Tryz.results48, go_sem]) rfl ⟨?_, HW.out⟩
              rw [dM_yes (by rw [opsL_len, HN.out]) HMS.out HALL.out]
              refine ⟨g1, ?_, ?_⟩
              · rw [HM.out.1]
              · rw [HM.out.1]; exact HM.out
end Go.Proofs.YtlappkflnlbfcaaGreatDoor.Bod
end

section
/- The document's 'around', walked. -/
namespace Go.Proofs.YtlappkflnlbfcaaGreatDoor.Bod
open Go.RowKit Ints Typ Ins
set_option maxRecDepth 100000
set_option maxHeartbeats 1000000
set_option linter.unusedVariables false

/-- Does a place stand around another, as its match tells? -/
def arF (ops : List Int) (ms : List (Int × Int)) (p k : Nat) : Bool := opn (ops.getD k 0) && (decide ((p : Int) < (ms.getD k (0, 0)).2) && ((ms.getD k (0, 0)).1 != (p : Int)))
/-- What was found from a place down to another. -/
def arL (f : Nat → Bool) (p j : Nat) : List Int := ((List.range' j (p - j)).reverse.filter f).map fun (k : Nat) => (k : Int)
theorem arL_step (f : Nat → Bool) {p j : Nat} (h : j < p) : arL f p j = if f j then arL f p (j + 1) ++ [(j : Int)] else arL f p (j + 1) := by
  unfold arL
  rw [show p - j = (p - (j + 1)) + 1 from by omega, List.range'_succ, List.reverse_cons, List.filter_append]
  by_cases hf : f j = true
  · rw [if_pos hf]
    simp [hf]
  · rw [if_neg hf]
    simp [hf]
theorem arL_top (f : Nat → Bool) (p : Nat) : arL f p p = [] := by simp [arL]
theorem arL_len (f : Nat → Bool) (p j : Nat) : (arL f p j).length ≤ p := by
  unfold arL
  rw [List.length_map]
  refine Nat.le_trans (List.length_filter_le _ _) ?_
  simp
theorem around_any {l : List (Ins × Value)} {ms : List (Int × Int)} {g off n c g1 p B : Nat} {w : World} (hn : l.length = n) (hbig : n ≤ 100000) (hms : MAt w B g1 n ms) (hp : p < n) (hr : InRow w (.slice (some ⟨g, off, none⟩) n c) l) :
    Calls Tryz.prog 54 #[.slice (some ⟨g, off, none⟩) n c, .slice (some ⟨g1, 0, none⟩) n n, .int .i64 (p : Int)] w fun e w' => (∃ v, e = .returned v ∧ OwnI w' w.heap.size v (arL (arF (opsL l) ms p) p 0)) ∧ Below w.heap.size w w' := by
  have HR := Lib.hid hr
  have HN := Lib.hid hn
  have HM := Lib.hid hms
  have hw0 : IntKind.i64.wrap ((p : Int) - 1) = (p : Int) - 1 := IntWalk.i64_in _ (by omega)
  clear hr hn hms
  go_enter Tryz.func54, Tryz.ntmps54
  go_wp2_with fail
  go_loopw [7, 8] (fun v k' wr => ∃ (j : Nat) (z : Int), k' = .int .i64 z ∧ z = (j : Int) - 1 ∧ j ≤ p ∧ OwnI wr w.heap.size v (arL (arF (opsL l) ms p) p j) ∧ Below w.heap.size w wr) (fun _ k' _ => (intOf k' + 1).toNat)
  case atStart => exact ⟨p, _, by go_num, rfl, Nat.le_refl _, by rw [arL_top]; exact ownI_nil _ _, Below.refl _ _⟩
  case round =>
    clear hw0
    obtain ⟨j, z, rfl, hz, hj, hO, hW⟩ := hrel
    have HW := Lib.hid hW
    have HO := Lib.hid hO
    clear hO hW
    by_cases hj0 : j = 0
    · subst hj0
      have t0 : decide ((0 : Int) ≤ z) = false := decide_eq_false (by omega)
      clear hz
      obtain ⟨Pv, cv, rfl⟩ := HO.out.form
      go_wp2_with fail
      exact bodyPost_ret (v := .slice Pv _ cv) (by simp [results, Tryz.results54, go_sem]) rfl ⟨⟨_, rfl, HO.out⟩, HW.out⟩
    · obtain ⟨q, rfl⟩ : ∃ q, j = q + 1 := ⟨j - 1, by omega⟩
      obtain rfl : z = (q : Int) := by omega
      clear hz
      have hqn : q < n := by omega
      obtain ⟨y, hy⟩ : ∃ y, l[q]? = some y := ⟨_, List.getElem?_eq_getElem (by rw [HN.out]; exact hqn)⟩
      have hOk := HR.out.2 _ (List.mem_of_getElem? hy)
      obtain ⟨PL, cL, hpo, _⟩ := id hOk.1
      have HC := Lib.hid (at_cells (HR.out.keep HW.out) hy)
      have HG := Lib.hid (opsL_get hy)
      have HS := Lib.hid (arL_step (arF (opsL l) ms p) (j := q) (p := p) (by omega))
      obtain ⟨x, ov⟩ := y
      simp only at hpo
      obtain ⟨nL, hnL⟩ : ∃ nL, x.L.length = nL := ⟨_, rfl⟩
      rw [hnL] at hpo
      subst hpo
      clear hOk hy hnL
      obtain ⟨q1, q2, q3, q4, q5⟩ := HC.out
      simp only at q1 q2 q3 q4 q5
      have hin1 : (0 : Int) ≤ (q : Int) := by omega
      have hin2 : (q : Int) < (n : Int) := by omega
      have hw1 : IntKind.i64.wrap ((q : Int) - 1) = (q : Int) - 1 := IntWalk.i64_in _ (by omega)
      have HF : Hid (arF (opsL l) ms p q = (opn x.op && (decide ((p : Int) < (ms.getD q (0, 0)).2) && ((ms.getD q (0, 0)).1 != (p : Int))))) := by
        show _ = _
        unfold arF
        rw [HG.out]
      have HCM : Hid (∀ W, Below w.heap.size w W → W.cell? ⟨g1, q * 2, none⟩ = some (.int .i64 (ms.getD q (0, 0)).1) ∧ W.cell? ⟨g1, q * 2 + 1, none⟩ = some (.int .i64 (ms.getD q (0, 0)).2)) := fun W hW => (HM.out.keep hW).cells hqn
      generalize ms.getD q (0, 0) = m at HF HCM
      obtain ⟨ve, vd⟩ := m
      simp only at HF HCM
      obtain ⟨b1, hb1⟩ : ∃ b, opn x.op = b := ⟨_, rfl⟩
      obtain ⟨b2, t2⟩ : ∃ b, decide ((p : Int) < vd) = b := ⟨_, rfl⟩
      obtain ⟨b3, t3⟩ : ∃ b, (ve != (p : Int)) = b := ⟨_, rfl⟩
      rw [hb1, t2, t3] at HF
      have HOP : Hid (∀ W, Calls Tryz.prog 79 #[.agg #[.int .i64 x.op, .int .i64 x.A, .int .i64 x.B, .int .u64 x.K, .slice PL nL cL]] W fun e w' => e = .returned (.bool b1) ∧ Below W.heap.size W w') := fun W => by have := opens_any x.op x.A x.B x.K PL nL cL W; rwa [hb1] at this
      clear hb1
      obtain ⟨Pv, cv, rfl⟩ := HO.out.form
      have HL := Lib.hid (arL_len (arF (opsL l) ms p) p (q + 1))
      generalize arL (arF (opsL l) ms p) p (q + 1) = L at HO HS HL
      generalize arF (opsL l) ms p q = bq at HF HS
      cases hbq : (b1 && (b2 && b3)) with
      | false =>
        have HNX := Lib.hid (show arL (arF (opsL l) ms p) p q = L by have h := HS.out; rwa [HF.out, hbq, if_neg (by decide)] at h)
        clear HS HF
        cases b1 with
        | false =>
          clear hbq t2 t3
          go_wp2_with fail
          refine (HOP.out _).mono ?_
          rintro e w2 ⟨rfl, hb⟩
          have HW2 := Lib.hid (HW.out.trans (hb.mono HW.out.size))
          have HO2 := Lib.hid (HO.out.keep hb)
          clear hb q1 q2 q3 q4 q5
          go_wp2_with fail
          go_roundw
          case rel => exact ⟨q, _, by go_num, rfl, by omega, by rw [HNX.out]; exact HO2.out, HW2.out⟩
          case measure => simp [intOf]
        | true =>
          cases b2 with
          | false =>
            clear hbq t3
            go_wp2_with fail
            refine (HOP.out _).mono ?_
            rintro e w2 ⟨rfl, hb⟩
            have HW2 := Lib.hid (HW.out.trans (hb.mono HW.out.size))
            have HO2 := Lib.hid (HO.out.keep hb)
            clear hb q1 q2 q3 q4 q5
            obtain ⟨m1, m2⟩ := HCM.out _ HW2.out
            go_wp2_with fail
            go_roundw
            case rel => exact ⟨q, _, by go_num, rfl, by omega, by rw [HNX.out]; exact HO2.out, HW2.out⟩
            case measure => simp [intOf]
          | true =>
            obtain rfl : b3 = false := by simpa using hbq
            clear hbq
            go_wp2_with fail
            refine (HOP.out _).mono ?_
            rintro e w2 ⟨rfl, hb⟩
            have HW2 := Lib.hid (HW.out.trans (hb.mono HW.out.size))
            have HO2 := Lib.hid (HO.out.keep hb)
            clear hb q1 q2 q3 q4 q5
            obtain ⟨m1, m2⟩ := HCM.out _ HW2.out
            go_wp2_with fail
            go_roundw
            case rel => exact ⟨q, _, by go_num, rfl, by omega, by rw [HNX.out]; exact HO2.out, HW2.out⟩
            case measure => simp [intOf]
      | true =>
        have HNX := Lib.hid (show arL (arF (opsL l) ms p) p q = L ++ [(q : Int)] by have h := HS.out; rwa [HF.out, hbq, if_pos rfl] at h)
        clear HS HF
        simp only [Bool.and_eq_true] at hbq
        obtain ⟨rfl, rfl, rfl⟩ := hbq
        go_wp2_with fail
        refine (HOP.out _).mono ?_
        rintro e w2 ⟨rfl, hb⟩
        have HW2 := Lib.hid (HW.out.trans (hb.mono HW.out.size))
        have HO2 := Lib.hid (HO.out.keep hb)
        clear hb q1 q2 q3 q4 q5
        obtain ⟨m1, m2⟩ := HCM.out _ HW2.out
        go_wp2_with (at_builtin; refine wp_oneI w2 rfl (.tmp 38) (.tmp 40) rfl w.heap.size _ L _ rfl HO2.out rfl (by have := HL.out; omega) HW2.out.size ?_; intro v3 w3 ho3 hb3; have HO3 := Lib.hid ho3; have HW3 := Lib.hid (HW2.out.trans hb3); clear ho3 hb3 m1 m2)
        go_roundw
        case rel => exact ⟨q, _, by go_num, rfl, by omega, by rw [HNX.out]; exact HO3.out, HW3.out⟩
        case measure => simp [intOf]
end Go.Proofs.YtlappkflnlbfcaaGreatDoor.Bod
end

section
/- What an instruction stands in, by the document and by the stack. Plain lists. -/
namespace Go.Proofs.YtlappkflnlbfcaaGreatDoor.Bod
set_option maxRecDepth 100000
set_option maxHeartbeats 1000000
set_option linter.unusedVariables false

/-- The stack at a place. -/
def sAt (ops : List Int) (p : Nat) : Stk := (st ops p).getD []
theorem sAt_st {ops : List Int} (h : Nested ops) {p : Nat} (hp : p ≤ ops.length) : st ops p = some (sAt ops p) := by
  obtain ⟨S, hS⟩ := st_le h hp
  unfold sAt
  rw [hS]
  rfl
/-- What an instruction stands in: the stack, without what an else or an end belongs to. -/
def sIn (ops : List Int) (p : Nat) : Stk := if ops.getD p 0 = 5 ∨ ops.getD p 0 = 11 then (sAt ops p).tail else sAt ops p
/-- Those further below are not ended at a place, nor have their else there. -/
theorem below_not {ops : List Int} (h : Nested ops) {p : Nat} (hp : p < ops.length) {S1 S2 : Stk} {a : Nat × Bool × Int} {k : Nat} {f : Bool} {o : Int} (hS : sAt ops p = a :: (S1 ++ (k, f, o) :: S2)) : (dEnd ops k).1 ≠ (p : Int) ∧ (dEnd ops k).2 ≠ (p : Int) := by
  have hH := held ops (by omega) (sAt_st h (p := p) (by omega))
  obtain ⟨g1, g2, g3, g4, g5, g7, g6⟩ := hH (a :: S1) S2 k f o (by rw [hS]; rfl)
  obtain ⟨e0, o0, c1, _⟩ := nested_closed h (k := k) (by omega) g2
  have hc : 0 ≤ (dEnd ops k).1 := by rw [c1]; simp only; omega
  rw [drop_cons hp, el] at g6
  have key : ∀ d, dEnd ops k = el f (ops.drop (p + 1)) (p + 1) d o → (dEnd ops k).1 ≠ (p : Int) ∧ (dEnd ops k).2 ≠ (p : Int) := fun d hd => by
    rcases el_facts f (ops.drop (p + 1)) (p + 1) d o (by omega) with q | ⟨e, o', q1, q2, _, _, _, q6, _⟩
    · rw [hd, q] at hc; simp at hc
    · rw [hd, q1]
      simp only
      refine ⟨by omega, ?_⟩
      rcases q6 with q6 | ⟨_, _, q8, _⟩
      · omega
      · omega
  by_cases h1 : opn (ops.getD p 0) = true
  · rw [if_pos h1] at g6; exact key _ g6
  · rw [if_neg h1, if_neg (by simp), if_neg (by simp)] at g6
    by_cases h3 : ops.getD p 0 = 11
    · rw [if_pos h3] at g6; exact key _ g6
    · rw [if_neg h3] at g6; exact key _ g6
theorem end_op {ops : List Int} {k p : Nat} (hk : k < ops.length) (h : (dEnd ops k).1 = (p : Int)) : ops.getD p 0 = 11 := by
  rcases dEnd_facts hk with q | ⟨e, o, q1, q2, q3, q4, _⟩
  · rw [q] at h; simp at h
  · rw [q1] at h
    simp only at h
    have : e = p := by omega
    subst this
    exact q4
theorem mem_split {S : Stk} {x : Nat} (h : x ∈ S.map (·.1)) : ∃ S1 f o S2, S = S1 ++ (x, f, o) :: S2 := by
  obtain ⟨⟨k, f, o⟩, hm, rfl⟩ := List.mem_map.1 h
  obtain ⟨S1, S2, e⟩ := List.append_of_mem hm
  exact ⟨S1, f, o, S2, e⟩
theorem filter_same {α : Type} {l : List α} {p q : α → Bool} (h : ∀ x ∈ l, p x = q x) : l.filter p = l.filter q := List.filter_congr h
/-- Openers whose end is not ahead of a place, the innermost first: what is on the stack there. -/
theorem open_list {ops : List Int} (h : Nested ops) : ∀ p, p ≤ ops.length → (List.range p).reverse.filter (fun k => opn (ops.getD k 0) && decide ((p : Int) ≤ (dEnd ops k).1)) = (sAt ops p).map (·.1)
  | 0, _ => by simp [sAt, st]
  | p + 1, hp => by
    have ih := open_list h p (by omega)
    have h0 := sAt_st h (p := p) (by omega)
    have h1 := sAt_st h (p := p + 1) hp
    have hs := st_succ h0 h1
    rw [List.range_succ, List.reverse_append, List.reverse_cons, List.reverse_nil, List.nil_append, List.singleton_append]
    have hf : ∀ (q : Nat → Bool), (∀ k, k < p → opn (ops.getD k 0) = true → (p : Int) ≤ (dEnd ops k).1 → (q k = true ↔ (dEnd ops k).1 ≠ (p : Int))) →
        (List.range p).reverse.filter (fun k => opn (ops.getD k 0) && decide (((p + 1 : Nat) : Int) ≤ (dEnd ops k).1)) = ((sAt ops p).map (·.1)).filter q := fun q hq => by
      rw [← ih, List.filter_filter]
      refine filter_same fun k hk => ?_
      have hk : k < p := by simpa using hk
      by_cases ho : opn (ops.getD k 0) = true
      · by_cases hle : (p : Int) ≤ (dEnd ops k).1
        · have := hq k hk ho hle
          rw [Bool.eq_iff_iff]
          simp only [ho, hle, Bool.true_and, decide_true, Bool.and_true, decide_eq_true_eq, this]
          omega
        · rw [Bool.eq_iff_iff]
          simp only [ho, hle, Bool.true_and, decide_false, Bool.and_false, decide_eq_true_eq, Bool.false_eq_true, iff_false]
          omega
      · have : opn (ops.getD k 0) = false := by simpa using ho
        rw [this]
        simp only [Bool.false_and, Bool.and_false]
    have hne : ops.getD p 0 ≠ 11 → ∀ k, k < p → (dEnd ops k).1 ≠ (p : Int) := fun hx k hk e => hx (end_op (by omega) e)
    unfold stepS at hs
    by_cases g1 : opn (ops.getD p 0) = true
    · rw [if_pos g1] at hs
      rw [← Option.some.inj hs]
      obtain ⟨e, o, c1, c2, _⟩ := nested_closed h (k := p) (by omega) g1
      have hx : ops.getD p 0 ≠ 11 := (opn_not g1).2
      rw [List.filter_cons, if_pos (by rw [g1, c1]; simp only [Bool.true_and, decide_eq_true_eq]; omega), hf (fun _ => true) (fun k hk ho hle => by simp [hne hx k hk]), List.map_cons]
      simp
    · rw [List.filter_cons, if_neg (by simp only [Bool.and_eq_true]; exact fun q => g1 q.1)]
      rw [if_neg g1] at hs
      by_cases g2 : ops.getD p 0 = 5
      · rw [if_pos g2] at hs
        rw [hf (fun _ => true) (fun k hk ho hle => by simp [hne (by rw [g2]; decide) k hk])]
        cases hS : sAt ops p with
        | nil => rw [hS] at hs; cases hs
        | cons a S =>
          obtain ⟨k0, f0, o0⟩ := a
          rw [hS] at hs
          cases f0 with
          | false => cases hs
          | true =>
            simp only at hs
            by_cases g3 : o0 < 0
            · rw [if_pos g3] at hs
              rw [← Option.some.inj hs]
              simp
            · rw [if_neg g3] at hs; cases hs
      · rw [if_neg g2] at hs
        by_cases g3 : ops.getD p 0 = 11
        · rw [if_pos g3] at hs
          rw [hf (fun k => decide ((dEnd ops k).1 ≠ (p : Int))) (fun k hk ho hle => by simp)]
          obtain ⟨k0, f0, o0, S, t1, t2, t3, t4⟩ := top_end h (by omega) g3
          have hS : sAt ops p = (k0, f0, o0) :: S := Option.some.inj (h0.symm.trans t1)
          rw [hS] at hs ⊢
          simp only at hs
          rw [← Option.some.inj hs, List.map_cons, List.filter_cons, if_neg (by rw [t4]; simp)]
          rw [List.filter_eq_self.2]
          intro x hx
          obtain ⟨S1, f, o, S2, rfl⟩ := mem_split hx
          exact decide_eq_true (below_not h (by omega) hS).1
        · rw [if_neg g3] at hs
          rw [hf (fun _ => true) (fun k hk ho hle => by simp [hne g3 k hk]), ← Option.some.inj hs]
          simp
/-- Around, by the document: the places of what an instruction stands in, the innermost one first. -/
theorem around_list {ops : List Int} (h : Nested ops) {p : Nat} (hp : p < ops.length) :
    (List.range p).reverse.filter (fun k => opn (ops.getD k 0) && decide ((p : Int) < (dEnd ops k).1) && decide ((dEnd ops k).2 ≠ (p : Int))) = (sIn ops p).map (·.1) := by
  have ih := open_list h p (by omega)
  have h0 := sAt_st h (p := p) (by omega)
  have hf : (List.range p).reverse.filter (fun k => opn (ops.getD k 0) && decide ((p : Int) < (dEnd ops k).1) && decide ((dEnd ops k).2 ≠ (p : Int))) = ((sAt ops p).map (·.1)).filter (fun k => decide ((dEnd ops k).1 ≠ (p : Int)) && decide ((dEnd ops k).2 ≠ (p : Int))) := by
    rw [← ih, List.filter_filter]
    refine filter_same fun k hk => ?_
    rw [Bool.eq_iff_iff]
    simp only [Bool.and_eq_true, decide_eq_true_eq]
    constructor
    · rintro ⟨⟨a, b⟩, c⟩; exact ⟨⟨by omega, c⟩, a, by omega⟩
    · rintro ⟨⟨a, b⟩, c, d⟩; exact ⟨⟨c, by omega⟩, b⟩
  rw [hf]
  have hlow : ∀ x ∈ (sAt ops p).map (·.1), x < p := fun x hx => by
    obtain ⟨S1, f, o, S2, e⟩ := mem_split hx
    exact (held ops (by omega) h0 S1 S2 x f o e).1
  have htail : ∀ x ∈ ((sAt ops p).tail).map (·.1), (decide ((dEnd ops x).1 ≠ (p : Int)) && decide ((dEnd ops x).2 ≠ (p : Int))) = true := fun x hx => by
    obtain ⟨S1, f, o, S2, e⟩ := mem_split hx
    cases hS : sAt ops p with
    | nil => rw [hS] at e; cases S1 <;> cases e
    | cons a S =>
      rw [hS] at e
      simp only [List.tail_cons] at e
      subst e
      have := below_not h hp hS
      rw [decide_eq_true this.1, decide_eq_true this.2]
      rfl
  unfold sIn
  by_cases g : ops.getD p 0 = 5 ∨ ops.getD p 0 = 11
  · rw [if_pos g]
    have hhead : ∃ a S, sAt ops p = a :: S ∧ (decide ((dEnd ops a.1).1 ≠ (p : Int)) && decide ((dEnd ops a.1).2 ≠ (p : Int))) = false := by
      rcases g with g | g
      · obtain ⟨k, o, S, t1, _, _, _, t4⟩ := top_else h hp g
        exact ⟨(k, true, o), S, Option.some.inj (h0.symm.trans t1), by rw [show (dEnd ops ((k, true, o) : Nat × Bool × Int).1).2 = (p : Int) from t4]; simp⟩
      · obtain ⟨k, f, o, S, t1, _, _, t4⟩ := top_end h hp g
        exact ⟨(k, f, o), S, Option.some.inj (h0.symm.trans t1), by rw [show dEnd ops ((k, f, o) : Nat × Bool × Int).1 = ((p : Int), o) from t4]; simp⟩
    obtain ⟨a, S, hS, hh⟩ := hhead
    rw [hS] at htail ⊢
    rw [List.map_cons, List.filter_cons, if_neg (by rw [hh]; simp)]
    exact List.filter_eq_self.2 htail
  · rw [if_neg g]
    refine List.filter_eq_self.2 fun x hx => ?_
    have hxp := hlow x hx
    have n1 : (dEnd ops x).1 ≠ (p : Int) := fun e => g (.inr (end_op (by omega) e))
    have n2 : (dEnd ops x).2 ≠ (p : Int) := fun e => by
      obtain ⟨S1, f, o, S2, e2⟩ := mem_split hx
      have := (held ops (by omega) h0 S1 S2 x f o e2).2.1
      exact g (.inl (else_op (k := ops.length) (Nat.le_refl _) ⟨by omega, this, e⟩).1)
    rw [decide_eq_true n1, decide_eq_true n2]
    rfl
end Go.Proofs.YtlappkflnlbfcaaGreatDoor.Bod
end
