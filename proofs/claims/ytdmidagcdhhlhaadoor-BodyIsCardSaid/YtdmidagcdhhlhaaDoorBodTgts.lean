/- Several parts in one text. -/
import Derived.Test.YtdmidagcdhhlhaaDoorBodDepths
/- May instructions be, by the document, walked. -/
namespace Go.Proofs.YtdmidagcdhhlhaaDoor.Bod
open Go.RowKit Ints Typ Ins
set_option maxRecDepth 100000
set_option maxHeartbeats 1000000
set_option linter.unusedVariables false

/-- Each may be, all are nested, not too many, none too deep. -/
def SaneB (l : List (Ins × Value)) : Prop := (∃ ms, dM (opsL l) = some ms) ∧ l.length ≤ 4096 ∧ ∀ q p, l[q]? = some p → saneI p.1 = true ∧ (aroundD (opsL l) q).length ≤ 32
theorem depL_get (ops : List Int) {i q : Nat} (h : q < i) : (depL ops i).getD q 0 = ((aroundD ops q).length : Int) := by
  unfold depL
  rw [List.getD_eq_getElem?_getD, List.getElem?_map, List.getElem?_range h]
  rfl
theorem sl_cell {W : World} {P : Option Addr} {m c : Nat} {L : List Int} (h : SlI W (.slice P m c) L) {i : Nat} (hi : i < L.length) : ∃ g off, P = some ⟨g, off, none⟩ ∧ g < W.heap.size ∧ W.cell? ⟨g, off + i, none⟩ = some (.int .i64 (L.getD i 0)) := by
  obtain ⟨A, c', e, _, _, h4⟩ := h
  injection e with e1 e2 e3
  obtain ⟨g, off, a1, a2, a3⟩ := h4 (by intro e; rw [e] at hi; simp at hi)
  exact ⟨g, off, e1.trans a1, a2, a3 i hi⟩
theorem rbsane_any {l : List (Ins × Value)} {A : Option Addr} {g off n c : Nat} {w : World} (hn : l.length = n) (hbig : n ≤ 100000) (hA : n ≠ 0 → A = some ⟨g, off, none⟩) (hr : InRow w (.slice A n c) l) :
    Calls Tryd.prog 23 #[.slice A n c] w fun e w' => (∃ b, e = .returned (.bool b) ∧ (b = true ↔ SaneB l)) ∧ Below w.heap.size w w' := by
  have HR := Lib.hid hr
  have HN := Lib.hid hn
  have HA := Lib.hid hA
  have HCM := Lib.hid (rmatches_any hn hbig hA hr)
  clear hr hn hA
  go_enter Tryd.func23, Tryd.ntmps23
  go_wp2_with fail
  refine HCM.out.mono ?_
  rintro e w1 ⟨hres, hb⟩
  have HW1 := Lib.hid hb
  clear hb
  cases hd : dM (opsL l) with
  | none =>
    rw [hd] at hres
    have HNO : Hid (¬ SaneB l) := fun h => by
      obtain ⟨⟨ms, h1⟩, _⟩ := h
      rw [hd] at h1
      cases h1
    obtain rfl := hres
    clear hd
    go_wp2_with fail
    exact bodyPost_ret (v := .bool false) (by simp [results, Tryd.results23, go_sem]) rfl ⟨⟨false, rfl, by simpa using HNO.out⟩, HW1.out⟩
  | some ms =>
    rw [hd] at hres
    have HD := Lib.hid hd
    obtain ⟨g1, rfl, hM⟩ := hres
    clear hd hM
    by_cases h4 : n ≤ 4096
    · have t4 : decide ((4096 : Int) < (n : Int)) = false := decide_eq_false (by omega)
      have HCD := Lib.hid (rdepths_any HN.out hbig HA.out (HR.out.keep HW1.out))
      have HDD : Hid (dDepths (opsL l) = depL (opsL l) n) := by
        show _ = _
        unfold dDepths
        rw [HD.out, opsL_len, HN.out]
      rw [HDD.out] at HCD
      go_wp2_with fail
      refine HCD.out.mono ?_
      rintro e w2 ⟨⟨v, rfl, ho⟩, hb⟩
      have HW2 := Lib.hid (HW1.out.trans (hb.mono HW1.out.size))
      have HS := Lib.hid (OwnI.slI ho)
      obtain ⟨Pd, cd, rfl⟩ := OwnI.form ho
      clear ho hb
      have hdl : (depL (opsL l) n).length = n := by simp [depL]
      rw [hdl] at HS ⊢
      clear hdl
      go_wp2_with fail
      go_loopw [6] (fun i' wr => ∃ i : Nat, i' = .int .i64 (i : Int) ∧ i ≤ n ∧ Below w2.heap.size w2 wr ∧ ∀ q, q < i → ∀ p, l[q]? = some p → saneI p.1 = true ∧ (aroundD (opsL l) q).length ≤ 32) (fun i' _ => n - (intOf i').toNat)
      case atStart => exact ⟨0, by go_num, by omega, Below.refl _ _, fun q hq => absurd hq (by omega)⟩
      case round =>
        obtain ⟨i, rfl, hi, hW, hall⟩ := hrel
        have HW := Lib.hid hW
        have HALL := Lib.hid hall
        clear hW hall
        have HWW := Lib.hid (HW2.out.trans (HW.out.mono HW2.out.size))
        by_cases hlt : i < n
        · have hA' := HA.out (by omega)
          subst hA'
          obtain ⟨y, hy⟩ : ∃ y, l[i]? = some y := ⟨_, List.getElem?_eq_getElem (by rw [HN.out]; exact hlt)⟩
          have HOk := Lib.hid (HR.out.2 _ (List.mem_of_getElem? hy))
          have HSl := Lib.hid (HOk.out.1.keep HWW.out)
          obtain ⟨PL, cL, hpo, _⟩ := id HOk.out.1
          have HC := Lib.hid (at_cells (HR.out.keep HWW.out) hy)
          have HY := Lib.hid hy
          obtain ⟨x, ov⟩ := y
          simp only at hpo HSl
          obtain ⟨nL, hnL⟩ : ∃ nL, x.L.length = nL := ⟨_, rfl⟩
          rw [hnL] at hpo
          subst hpo
          have HCS := Lib.hid (rsane_any (x := x) HSl.out)
          obtain ⟨gd, od, hPd, hgd, hcl⟩ := sl_cell (HS.out.keep HW.out) (i := i) (by simp [depL]; exact hlt)
          have HCE := Lib.hid hcl
          subst hPd
          have HGD : Hid (gd < wr.heap.size) := hgd
          clear hy hnL hcl hgd
          rw [depL_get _ hlt] at HCE
          obtain ⟨q1, q2, q3, q4, q5⟩ := HC.out
          simp only at q1 q2 q3 q4 q5
          have hin1 : (0 : Int) ≤ (i : Int) := by omega
          have hin2 : (i : Int) < (n : Int) := by omega
          have hw1 : IntKind.i64.wrap ((i : Int) + 1) = (i : Int) + 1 := IntWalk.i64_in _ (by omega)
          obtain ⟨b, hb⟩ : ∃ b, saneI x = b := ⟨_, rfl⟩
          have HB := Lib.hid hb
          rw [hb] at HCS
          clear hb
          obtain ⟨d, hd⟩ : ∃ d, (aroundD (opsL l) i).length = d := ⟨_, rfl⟩
          have HDP := Lib.hid hd
          rw [hd] at HCE
          clear hd
          cases b with
          | false =>
            have HNO : Hid (¬ SaneB l) := fun h => by
              have := (h.2.2 i _ HY.out).1
              rw [HB.out] at this
              cases this
            go_wp2_with fail
            refine HCS.out.mono ?_
            rintro e w3 ⟨rfl, hb⟩
            have HW3 := Lib.hid (HWW.out.trans (hb.mono HWW.out.size))
            clear hb q1 q2 q3 q4 q5
            go_wp2_with fail
            exact bodyPost_ret (v := .bool false) (by simp [results, Tryd.results23, go_sem]) rfl ⟨⟨false, rfl, by simpa using HNO.out⟩, HW3.out⟩
          | true =>
            by_cases h32 : d ≤ 32
            · have t5 : decide ((32 : Int) < (d : Int)) = false := decide_eq_false (by omega)
              have HNX : Hid (∀ q, q < i + 1 → ∀ p, l[q]? = some p → saneI p.1 = true ∧ (aroundD (opsL l) q).length ≤ 32) := fun q hq p hp => by
                by_cases e : q = i
                · subst e
                  have e2 := Option.some.inj (HY.out.symm.trans hp)
                  subst e2
                  exact ⟨HB.out, by rw [HDP.out]; exact h32⟩
                · exact HALL.out q (by omega) p hp
              clear h32
              go_wp2_with fail
              refine HCS.out.mono ?_
              rintro e w3 ⟨rfl, hb⟩
              have HW3 := Lib.hid (HW.out.trans (hb.mono HW.out.size))
              have hcd : w3.cell? ⟨gd, od + i, none⟩ = some (.int .i64 (d : Int)) := by rw [hb.cell (p := ⟨gd, od + i, none⟩) HGD.out]; exact HCE.out
              clear hb q1 q2 q3 q4 q5
              go_wp2_with fail
              go_roundw
              case rel => exact ⟨i + 1, by go_num, hlt, HW3.out, HNX.out⟩
              case measure => simp [intOf]; omega
            · have t5 : decide ((32 : Int) < (d : Int)) = true := decide_eq_true (by omega)
              have HNO : Hid (¬ SaneB l) := fun h => by
                have := (h.2.2 i _ HY.out).2
                rw [HDP.out] at this
                exact h32 this
              clear h32
              go_wp2_with fail
              refine HCS.out.mono ?_
              rintro e w3 ⟨rfl, hb⟩
              have HW3 := Lib.hid (HWW.out.trans (hb.mono HWW.out.size))
              have hcd : w3.cell? ⟨gd, od + i, none⟩ = some (.int .i64 (d : Int)) := by rw [hb.cell (p := ⟨gd, od + i, none⟩) HGD.out]; exact HCE.out
              clear hb q1 q2 q3 q4 q5
              go_wp2_with fail
              exact bodyPost_ret (v := .bool false) (by simp [results, Tryd.results23, go_sem]) rfl ⟨⟨false, rfl, by simpa using HNO.out⟩, HW3.out⟩
        · obtain rfl : i = n := by omega
          have HYES : Hid (SaneB l) := ⟨⟨ms, HD.out⟩, by rw [HN.out]; exact h4, fun q p hq => HALL.out q (by
            have := (List.getElem?_eq_some_iff.1 hq).1
            rwa [HN.out] at this) p hq⟩
          clear hlt
          go_wp2_with fail
          exact bodyPost_ret (v := .bool true) (by simp [results, Tryd.results23, go_sem]) rfl ⟨⟨true, rfl, by simpa using HYES.out⟩, HWW.out⟩
    · have t4 : decide ((4096 : Int) < (n : Int)) = true := decide_eq_true (by omega)
      have HNO : Hid (¬ SaneB l) := fun h => h4 (by rw [← HN.out]; exact h.2.1)
      clear h4
      go_wp2_with fail
      exact bodyPost_ret (v := .bool false) (by simp [results, Tryd.results23, go_sem]) rfl ⟨⟨false, rfl, by simpa using HNO.out⟩, HW1.out⟩
end Go.Proofs.YtdmidagcdhhlhaaDoor.Bod

/- Where a branch goes on, by the document, walked. -/
namespace Go.Proofs.YtdmidagcdhhlhaaDoor.Bod
open Go.RowKit Ints Typ Ins
set_option maxRecDepth 100000
set_option maxHeartbeats 1000000
set_option linter.unusedVariables false

/-- Where a branch goes on, by the document. -/
def tgt (ops : List Int) (a lab : Int) : Int × Bool :=
  match dM ops with
  | none => (0, false)
  | some _ =>
    if a < 0 ∨ (ops.length : Int) ≤ a then (0, false)
    else if lab < 0 ∨ ((aroundD ops a.toNat).length : Int) < lab then (0, false)
    else if lab = ((aroundD ops a.toNat).length : Int) then ((ops.length : Int), true)
    else if ops.getD ((aroundD ops a.toNat).getD lab.toNat 0).toNat 0 = 3 then ((aroundD ops a.toNat).getD lab.toNat 0, true)
    else ((dEnd ops ((aroundD ops a.toNat).getD lab.toNat 0).toNat).1, true)
theorem around_mem {ops : List Int} (h : Nested ops) {p : Nat} (hp : p < ops.length) {i : Nat} (hi : i < (aroundD ops p).length) : ∃ k : Nat, (aroundD ops p).getD i 0 = (k : Int) ∧ k < p ∧ opn (ops.getD k 0) = true := by
  unfold aroundD at hi ⊢
  rw [List.length_map] at hi
  obtain ⟨a, ha⟩ : ∃ a, (sIn ops p)[i]? = some a := ⟨_, List.getElem?_eq_getElem hi⟩
  have hm : a ∈ sAt ops p := by
    have h1 := List.mem_of_getElem? ha
    unfold sIn at h1
    split at h1
    · exact List.mem_of_mem_tail h1
    · exact h1
  obtain ⟨S1, S2, e⟩ := List.append_of_mem hm
  obtain ⟨k, f, o⟩ := a
  have := held ops (by omega) (sAt_st h (p := p) (by omega)) S1 S2 k f o e
  refine ⟨k, ?_, this.1, this.2.1⟩
  rw [List.getD_eq_getElem?_getD, List.getElem?_map, ha]
  rfl
theorem rtarget_any {l : List (Ins × Value)} {A : Option Addr} {g off n c : Nat} {w : World} (hn : l.length = n) (hbig : n ≤ 100000) (hA : n ≠ 0 → A = some ⟨g, off, none⟩) (hr : InRow w (.slice A n c) l) (a lab : Int) :
    Calls Tryd.prog 18 #[.slice A n c, .int .i64 a, .int .i64 lab] w fun e w' => e = .returned (.tuple #[.int .i64 (tgt (opsL l) a lab).1, .bool (tgt (opsL l) a lab).2]) ∧ Below w.heap.size w w' := by
  have HR := Lib.hid hr
  have HN := Lib.hid hn
  have HA := Lib.hid hA
  have HCM := Lib.hid (rmatches_any hn hbig hA hr)
  obtain ⟨T, hT⟩ : ∃ T, tgt (opsL l) a lab = T := ⟨_, rfl⟩
  rw [hT]
  have HT := Lib.hid hT
  clear hr hn hA hT
  go_enter Tryd.func18, Tryd.ntmps18
  go_wp2_with fail
  refine HCM.out.mono ?_
  rintro e w1 ⟨hres, hb⟩
  have HW1 := Lib.hid hb
  clear hb
  cases hd : dM (opsL l) with
  | none =>
    rw [hd] at hres
    have HT1 := Lib.hid (show T = (0, false) by rw [← HT.out]; unfold tgt; rw [hd])
    obtain rfl := hres
    clear hd
    go_wp2_with fail
    exact bodyPost_ret (v := .tuple #[.int .i64 0, .bool false]) (by simp [results, Tryd.results18, go_sem]) rfl ⟨by rw [HT1.out], HW1.out⟩
  | some ms =>
    rw [hd] at hres
    have HTT := Lib.hid (show T = (if a < 0 ∨ (n : Int) ≤ a then (0, false)
      else if lab < 0 ∨ ((aroundD (opsL l) a.toNat).length : Int) < lab then (0, false)
      else if lab = ((aroundD (opsL l) a.toNat).length : Int) then ((n : Int), true)
      else if (opsL l).getD ((aroundD (opsL l) a.toNat).getD lab.toNat 0).toNat 0 = 3 then ((aroundD (opsL l) a.toNat).getD lab.toNat 0, true)
      else ((dEnd (opsL l) ((aroundD (opsL l) a.toNat).getD lab.toNat 0).toNat).1, true)) by
        rw [← HT.out]; unfold tgt; rw [hd, opsL_len, HN.out])
    have HD := Lib.hid hd
    obtain ⟨g1, rfl, hM⟩ := hres
    have hml : ms.length = n := by rw [(dM_at hd).1, opsL_len, HN.out]
    rw [hml] at hM ⊢
    have HM := Lib.hid hM
    clear hd hM hml HT
    by_cases ha : a < 0
    · have HT1 := Lib.hid (show T = (0, false) by rw [HTT.out, if_pos (.inl ha)])
      have t1 : decide (a < 0) = true := decide_eq_true ha
      clear ha HTT
      go_wp2_with fail
      exact bodyPost_ret (v := .tuple #[.int .i64 0, .bool false]) (by simp [results, Tryd.results18, go_sem]) rfl ⟨by rw [HT1.out], HW1.out⟩
    · have t1 : decide (a < 0) = false := decide_eq_false ha
      by_cases ha2 : (n : Int) ≤ a
      · have HT1 := Lib.hid (show T = (0, false) by rw [HTT.out, if_pos (.inr ha2)])
        have t2 : decide ((n : Int) ≤ a) = true := decide_eq_true ha2
        clear ha ha2 HTT
        go_wp2_with fail
        exact bodyPost_ret (v := .tuple #[.int .i64 0, .bool false]) (by simp [results, Tryd.results18, go_sem]) rfl ⟨by rw [HT1.out], HW1.out⟩
      · obtain ⟨p, rfl⟩ : ∃ p : Nat, a = (p : Int) := ⟨a.toNat, by omega⟩
        have t2 : decide ((n : Int) ≤ (p : Int)) = false := decide_eq_false ha2
        have hp : p < n := by omega
        have HTU : Hid (T = if lab < 0 ∨ ((aroundD (opsL l) p).length : Int) < lab then (0, false)
          else if lab = ((aroundD (opsL l) p).length : Int) then ((n : Int), true)
          else if (opsL l).getD ((aroundD (opsL l) p).getD lab.toNat 0).toNat 0 = 3 then ((aroundD (opsL l) p).getD lab.toNat 0, true)
          else ((dEnd (opsL l) ((aroundD (opsL l) p).getD lab.toNat 0).toNat).1, true)) := by
          show _ = _
          have h := HTT.out
          rw [if_neg (by omega), Int.toNat_natCast] at h
          exact h
        have hA' := HA.out (by omega)
        subst hA'
        have HC := Lib.hid (around_any HN.out hbig HM.out hp (HR.out.keep HW1.out))
        rw [ar_is HD.out (by rw [opsL_len, HN.out]; exact hp)] at HC
        have HAM : Hid (∀ i, i < (aroundD (opsL l) p).length → ∃ k : Nat, (aroundD (opsL l) p).getD i 0 = (k : Int) ∧ k < p ∧ opn ((opsL l).getD k 0) = true) := fun i hi => around_mem (dM_nested HD.out) (by rw [opsL_len, HN.out]; exact hp) hi
        generalize aroundD (opsL l) p = R at HTU HC HAM
        clear ha ha2 HTT
        go_wp2_with fail
        refine HC.out.mono ?_
        rintro e w2 ⟨⟨v, rfl, ho⟩, hb⟩
        have HW2 := Lib.hid (HW1.out.trans (hb.mono HW1.out.size))
        have HM2 := Lib.hid (HM.out.keep hb)
        have HS := Lib.hid (OwnI.slI ho)
        obtain ⟨Pd, cd, rfl⟩ := OwnI.form ho
        clear ho hb
        obtain ⟨m, hm⟩ : ∃ m, R.length = m := ⟨_, rfl⟩
        have HRM := Lib.hid hm
        rw [hm] at HS HTU HAM ⊢
        clear hm t1 t2
        by_cases h1 : lab < 0
        · have HT1 := Lib.hid (show T = (0, false) by rw [HTU.out, if_pos (.inl h1)])
          have t1 : decide (lab < 0) = true := decide_eq_true h1
          clear h1 HTU
          go_wp2_with fail
          exact bodyPost_ret (v := .tuple #[.int .i64 0, .bool false]) (by simp [results, Tryd.results18, go_sem]) rfl ⟨by rw [HT1.out], HW2.out⟩
        · have t1 : decide (lab < 0) = false := decide_eq_false h1
          by_cases h2 : (m : Int) < lab
          · have HT1 := Lib.hid (show T = (0, false) by rw [HTU.out, if_pos (.inr h2)])
            have t2 : decide ((m : Int) < lab) = true := decide_eq_true h2
            clear h1 h2 HTU
            go_wp2_with fail
            exact bodyPost_ret (v := .tuple #[.int .i64 0, .bool false]) (by simp [results, Tryd.results18, go_sem]) rfl ⟨by rw [HT1.out], HW2.out⟩
          · have t2 : decide ((m : Int) < lab) = false := decide_eq_false h2
            by_cases h3 : lab = (m : Int)
            · have HT1 := Lib.hid (show T = ((n : Int), true) by rw [HTU.out, if_neg (by omega), if_pos h3])
              have t3 : (lab == (m : Int)) = true := by simpa using h3
              clear h1 h2 h3 HTU
              go_wp2_with fail
              exact bodyPost_ret (v := .tuple #[.int .i64 (n : Int), .bool true]) (by simp [results, Tryd.results18, go_sem]) rfl ⟨by rw [HT1.out], HW2.out⟩
            · have t3 : (lab == (m : Int)) = false := by simpa using h3
              obtain ⟨b, rfl⟩ : ∃ b : Nat, lab = (b : Int) := ⟨lab.toNat, by omega⟩
              have hbm : b < m := by omega
              obtain ⟨k, hk0, hkp, hko⟩ := HAM.out b hbm
              have HTV := Lib.hid (show T = if (opsL l).getD k 0 = 3 then ((k : Int), true) else ((dEnd (opsL l) k).1, true) by
                have h := HTU.out
                rw [if_neg (by omega), if_neg h3, Int.toNat_natCast, hk0, Int.toNat_natCast] at h
                exact h)
              obtain ⟨gd, od, hPd, hgd, hcl⟩ := sl_cell HS.out (i := b) (by rw [HRM.out]; exact hbm)
              subst hPd
              rw [hk0] at hcl
              have hkn : k < n := by omega
              obtain ⟨y, hy⟩ : ∃ y, l[k]? = some y := ⟨_, List.getElem?_eq_getElem (by rw [HN.out]; exact hkn)⟩
              have HCC := Lib.hid (at_cells (HR.out.keep HW2.out) hy)
              have HG := Lib.hid (opsL_get hy)
              have HMC : Hid (w2.cell? ⟨g1, k * 2 + 1, none⟩ = some (.int .i64 (dEnd (opsL l) k).1)) := by
                show _ = _
                have h := (HM2.out.cells hkn).2
                rw [(dM_at HD.out).2 k (by rw [opsL_len, HN.out]; exact hkn) hko] at h
                exact h
              obtain ⟨x, ov⟩ := y
              clear hy hk0 hko
              obtain ⟨q1, q2, q3, q4, q5⟩ := HCC.out
              clear q2 q3 q4 q5
              simp only at q1
              rw [HG.out] at HTV
              have hin1 : (0 : Int) ≤ (b : Int) := by omega
              have hin2 : (b : Int) < (m : Int) := by omega
              have hin3 : (0 : Int) ≤ (k : Int) := by omega
              have hin4 : (k : Int) < (n : Int) := by omega
              by_cases h5 : x.op = 3
              · have HT1 := Lib.hid (show T = ((k : Int), true) by rw [HTV.out, if_pos h5])
                have t5 : (x.op == 3) = true := by simpa using h5
                clear h1 h2 h3 h5 HTU HTV HMC
                go_wp2_with fail
                exact bodyPost_ret (v := .tuple #[.int .i64 (k : Int), .bool true]) (by simp [results, Tryd.results18, go_sem]) rfl ⟨by rw [HT1.out], HW2.out⟩
              · have HT1 := Lib.hid (show T = ((dEnd (opsL l) k).1, true) by rw [HTV.out, if_neg h5])
                have t5 : (x.op == 3) = false := by simpa using h5
                clear h1 h2 h3 h5 HTU HTV
                generalize (dEnd (opsL l) k).1 = de at HT1 HMC
                have hmc := HMC.out
                go_wp2_with fail
                exact bodyPost_ret (v := .tuple #[.int .i64 de, .bool true]) (by simp [results, Tryd.results18, go_sem]) rfl ⟨by rw [HT1.out], HW2.out⟩
end Go.Proofs.YtdmidagcdhhlhaaDoor.Bod

/- What is nested: ends in one another, as many as open; what one stands in; bodies behind and in bodies. Plain lists. -/
namespace Go.Proofs.YtdmidagcdhhlhaaDoor.Bod
set_option maxRecDepth 100000
set_option maxHeartbeats 1000000
set_option linter.unusedVariables false

/-- What is open below one: what was open where that one opened. -/
theorem st_below {ops : List Int} : ∀ {p : Nat} {S1 S2 : Stk} {j : Nat} {f : Bool} {o : Int}, st ops p = some (S1 ++ (j, f, o) :: S2) → st ops j = some S2
  | 0, S1, S2, j, f, o, h => by
    have := Option.some.inj h
    cases S1 <;> simp at this
  | p + 1, S1, S2, j, f, o, h => by
    obtain ⟨S0, h0⟩ := st_before h
    have hs := st_succ h0 h
    unfold stepS at hs
    by_cases h1 : opn (ops.getD p 0) = true
    · rw [if_pos h1] at hs
      have hs := Option.some.inj hs
      cases S1 with
      | nil =>
        simp only [List.nil_append, List.cons.injEq, Prod.mk.injEq] at hs
        obtain ⟨⟨rfl, _, _⟩, rfl⟩ := hs
        exact h0
      | cons x S1 =>
        simp only [List.cons_append, List.cons.injEq] at hs
        rw [hs.2] at h0
        exact st_below h0
    · rw [if_neg h1] at hs
      by_cases h2 : ops.getD p 0 = 5
      · rw [if_pos h2] at hs
        cases S0 with
        | nil => cases hs
        | cons a S00 =>
          obtain ⟨k0, f0, o0⟩ := a
          cases f0 with
          | false => cases hs
          | true =>
            simp only at hs
            by_cases h3 : o0 < 0
            · rw [if_pos h3] at hs
              have hs := Option.some.inj hs
              cases S1 with
              | nil =>
                simp only [List.nil_append, List.cons.injEq, Prod.mk.injEq] at hs
                obtain ⟨⟨rfl, _, _⟩, rfl⟩ := hs
                exact st_below (S1 := []) h0
              | cons x S1 =>
                simp only [List.cons_append, List.cons.injEq] at hs
                rw [hs.2] at h0
                exact st_below (S1 := (k0, true, o0) :: S1) h0
            · rw [if_neg h3] at hs; cases hs
      · rw [if_neg h2] at hs
        by_cases h3 : ops.getD p 0 = 11
        · rw [if_pos h3] at hs
          cases S0 with
          | nil => cases hs
          | cons a S00 =>
            simp only at hs
            have hs := Option.some.inj hs
            rw [hs] at h0
            exact st_below (S1 := a :: S1) h0
        · rw [if_neg h3] at hs
          have hs := Option.some.inj hs
          rw [hs] at h0
          exact st_below h0
theorem sAt_below {ops : List Int} (h : Nested ops) {p : Nat} (hp : p ≤ ops.length) {S1 S2 : Stk} {j : Nat} {f : Bool} {o : Int} (e : sAt ops p = S1 ++ (j, f, o) :: S2) : sAt ops j = S2 := by
  have := st_below (by rw [← e]; exact sAt_st h hp)
  unfold sAt
  rw [this]
  rfl
/-- Open at a place: just what opened ahead of it and ends there or behind. -/
theorem open_mem {ops : List Int} (h : Nested ops) {p j : Nat} (hp : p ≤ ops.length) : j ∈ (sAt ops p).map (·.1) ↔ j < p ∧ opn (ops.getD j 0) = true ∧ (p : Int) ≤ (dEnd ops j).1 := by
  rw [← open_list h p hp]
  simp [List.mem_filter]
/-- Where one ends, it is on top. -/
theorem top_is {ops : List Int} (h : Nested ops) {j e : Nat} (hj : j < ops.length) (ho : opn (ops.getD j 0) = true) (he : (dEnd ops j).1 = (e : Int)) : ∃ f o, sAt ops e = (j, f, o) :: sAt ops j ∧ j < e ∧ e < ops.length ∧ ops.getD e 0 = 11 := by
  obtain ⟨e', o', c1, c2, c3, c4, _⟩ := nested_closed h hj ho
  rw [c1] at he
  simp only at he
  obtain rfl : e' = e := by omega
  have hm := (open_mem h (p := e') (j := j) (by omega)).2 ⟨c2, ho, by rw [c1]; exact Int.le_refl _⟩
  obtain ⟨S1, f, o, S2, e1⟩ := mem_split hm
  cases S1 with
  | nil =>
    refine ⟨f, o, ?_, c2, c3, c4⟩
    rw [sAt_below h (by omega) e1]
    exact e1
  | cons a S1 =>
    have := (below_not h c3 (by rw [e1]; rfl)).1
    rw [c1] at this
    exact absurd rfl this
/-- Of two that open, the later one's end stands ahead of the former one's, where that isn't ahead of it. -/
theorem ends_nest {ops : List Int} (h : Nested ops) {j k : Nat} (hjk : j < k) (hk : k < ops.length) (hoj : opn (ops.getD j 0) = true) (hok : opn (ops.getD k 0) = true) (hgt : (k : Int) < (dEnd ops j).1) : (dEnd ops k).1 < (dEnd ops j).1 := by
  obtain ⟨e, o, c1, c2, c3, c4, _⟩ := nested_closed h hk hok
  obtain ⟨f, o', t1, _⟩ := top_is h hk hok (e := e) (by rw [c1])
  have hm := (open_mem h (p := k) (j := j) (by omega)).2 ⟨hjk, hoj, by omega⟩
  obtain ⟨S1, f2, o2, S2, e2⟩ := mem_split hm
  rw [e2] at t1
  have n1 := (below_not h c3 t1).1
  have n2 := ((open_mem h (p := e) (j := j) (by omega)).1 (by rw [t1]; simp)).2.2
  rw [c1]
  simp only
  omega
/-- How many open, and how many end, ahead of a place. -/
def cntO (ops : List Int) : Nat → Nat
  | 0 => 0
  | p + 1 => if opn (ops.getD p 0) then cntO ops p + 1 else cntO ops p
def cntE (ops : List Int) : Nat → Nat
  | 0 => 0
  | p + 1 => if ops.getD p 0 = 11 then cntE ops p + 1 else cntE ops p
theorem cnt_open {ops : List Int} : ∀ {p : Nat} {S : Stk}, st ops p = some S → S.length + cntE ops p = cntO ops p
  | 0, S, h => by obtain rfl := Option.some.inj h; rfl
  | p + 1, S, h => by
    obtain ⟨S0, h0⟩ := st_before h
    have ih := cnt_open h0
    have hs := st_succ h0 h
    unfold stepS at hs
    unfold cntO cntE
    by_cases h1 : opn (ops.getD p 0) = true
    · rw [if_pos h1] at hs ⊢
      rw [if_neg (opn_not h1).2, ← Option.some.inj hs, List.length_cons]
      omega
    · rw [if_neg h1] at hs ⊢
      by_cases h2 : ops.getD p 0 = 5
      · rw [if_pos h2] at hs
        rw [if_neg (by rw [h2]; decide)]
        cases S0 with
        | nil => cases hs
        | cons a S00 =>
          obtain ⟨k0, f0, o0⟩ := a
          cases f0 with
          | false => cases hs
          | true =>
            simp only at hs
            by_cases h3 : o0 < 0
            · rw [if_pos h3] at hs
              rw [← Option.some.inj hs]
              exact ih
            · rw [if_neg h3] at hs; cases hs
      · rw [if_neg h2] at hs
        by_cases h3 : ops.getD p 0 = 11
        · rw [if_pos h3] at hs ⊢
          cases S0 with
          | nil => cases hs
          | cons a S00 =>
            simp only at hs
            rw [← Option.some.inj hs]
            rw [List.length_cons] at ih
            omega
        · rw [if_neg h3] at hs ⊢
          rw [← Option.some.inj hs]
          exact ih
theorem cnt_same {ops : List Int} (h : Nested ops) : cntE ops ops.length = cntO ops ops.length := by
  have := cnt_open (show st ops ops.length = some [] from h)
  simpa using this
/-- What one stands in, counted outwards. -/
theorem sIn_split {ops : List Int} (h : Nested ops) {p n : Nat} (hp : p < ops.length) (hn : n < (sIn ops p).length) : ∃ j e : Nat, (aroundD ops p).getD n 0 = (j : Int) ∧ j < p ∧ opn (ops.getD j 0) = true ∧ (sIn ops j).length + n + 1 = (sIn ops p).length ∧ (dEnd ops j).1 = (e : Int) ∧ p < e ∧ e < ops.length ∧ ops.getD e 0 = 11 ∧ (sIn ops e).length + n + 1 = (sIn ops p).length := by
  obtain ⟨a, ha⟩ : ∃ a, (sIn ops p)[n]? = some a := ⟨_, List.getElem?_eq_getElem hn⟩
  obtain ⟨j, f, o⟩ := a
  have hsp : sIn ops p = (sIn ops p).take n ++ (j, f, o) :: (sIn ops p).drop (n + 1) := by
    rw [List.getElem?_eq_some_iff] at ha
    obtain ⟨h1, h2⟩ := ha
    rw [← h2, ← List.drop_eq_getElem_cons h1, List.take_append_drop]
  have hS : ∃ S1, sAt ops p = S1 ++ (j, f, o) :: (sIn ops p).drop (n + 1) := by
    have e := hsp
    by_cases g : ops.getD p 0 = 5 ∨ ops.getD p 0 = 11
    · have e1 : sIn ops p = (sAt ops p).tail := by unfold sIn; rw [if_pos g]
      cases hh : sAt ops p with
      | nil => rw [e1, hh] at hn; simp at hn
      | cons a S =>
        rw [hh, List.tail_cons] at e1
        refine ⟨a :: (sIn ops p).take n, ?_⟩
        rw [List.cons_append, ← e, e1]
    · have e1 : sIn ops p = sAt ops p := by unfold sIn; rw [if_neg g]
      exact ⟨(sIn ops p).take n, by rw [← e, e1]⟩
  obtain ⟨S1, hS1⟩ := hS
  obtain ⟨g1, g2, _⟩ := held ops (by omega) (sAt_st h (p := p) (by omega)) S1 _ j f o hS1
  have hj := sAt_below h (by omega) hS1
  have hlen : ((sIn ops p).drop (n + 1)).length + n + 1 = (sIn ops p).length := by rw [List.length_drop]; omega
  have hjI : sIn ops j = (sIn ops p).drop (n + 1) := by
    unfold sIn
    rw [if_neg (by intro q; have := opn_not g2; omega)]
    rw [hj]
    rfl
  obtain ⟨e, o', c1, c2, c3, c4, _⟩ := nested_closed h (k := j) (by omega) g2
  obtain ⟨f2, o2, t1, _⟩ := top_is h (j := j) (e := e) (by omega) g2 (by rw [c1])
  have hmem : j ∈ (sIn ops p).map (·.1) := List.mem_map.2 ⟨_, List.mem_of_getElem? ha, rfl⟩
  rw [← around_list h hp, List.mem_filter] at hmem
  have hpe : (p : Int) < (dEnd ops j).1 := by
    have := hmem.2
    simp only [Bool.and_eq_true, decide_eq_true_eq] at this
    exact this.1.2
  rw [c1] at hpe
  simp only at hpe
  refine ⟨j, e, ?_, g1, g2, by rw [hjI]; exact hlen, by rw [c1], by omega, c3, c4, ?_⟩
  · unfold aroundD
    rw [List.getD_eq_getElem?_getD, List.getElem?_map, ha]
    rfl
  · have : sIn ops e = sAt ops j := by unfold sIn; rw [if_pos (.inr c4), t1]; rfl
    rw [this, hj]
    exact hlen
/-- Places moved on, over what lies below. -/
def mv (c : Nat) (a : Nat × Bool × Int) : Nat × Bool × Int := (a.1 + c, a.2.1, if a.2.2 < 0 then a.2.2 else a.2.2 + (c : Int))
def shS (c : Nat) (T S : Stk) : Stk := S.map (mv c) ++ T
theorem step_shift {c p : Nat} {op : Int} {T S S' : Stk} (h : stepS p op S = some S') : stepS (p + c) op (shS c T S) = some (shS c T S') := by
  unfold stepS at h ⊢
  by_cases h1 : opn op = true
  · rw [if_pos h1] at h ⊢
    rw [← Option.some.inj h]
    rfl
  · rw [if_neg h1] at h ⊢
    by_cases h2 : op = 5
    · rw [if_pos h2] at h ⊢
      cases S with
      | nil => cases h
      | cons a S =>
        obtain ⟨k, f, o⟩ := a
        cases f with
        | false => cases h
        | true =>
          simp only at h
          by_cases h3 : o < 0
          · rw [if_pos h3] at h
            rw [← Option.some.inj h]
            have e1 : mv c (k, true, o) = (k + c, true, o) := by simp [mv, h3]
            have e2 : mv c (k, true, (p : Int)) = (k + c, true, ((p + c : Nat) : Int)) := by
              simp only [mv]
              rw [if_neg (by omega)]
              simp
            simp only [shS, List.map_cons, List.cons_append, e1, e2]
            rw [if_pos h3]
          · rw [if_neg h3] at h; cases h
    · rw [if_neg h2] at h ⊢
      by_cases h3 : op = 11
      · rw [if_pos h3] at h ⊢
        cases S with
        | nil => cases h
        | cons a S =>
          simp only at h
          rw [← Option.some.inj h]
          rfl
      · rw [if_neg h3] at h ⊢
        rw [← Option.some.inj h]
theorem getD_mid {a m z : List Int} {p : Nat} (hp : p < m.length) : (a ++ m ++ z).getD (p + a.length) 0 = m.getD p 0 := by
  rw [List.getD_eq_getElem?_getD, List.getD_eq_getElem?_getD, List.append_assoc, List.getElem?_append_right (by omega), List.getElem?_append_left (by omega), Nat.add_sub_cancel]
theorem st_shift {a m z : List Int} {T : Stk} (hT : st (a ++ m ++ z) a.length = some T) : ∀ {p : Nat} {S : Stk}, p ≤ m.length → st m p = some S → st (a ++ m ++ z) (p + a.length) = some (shS a.length T S)
  | 0, S, _, h => by
    obtain rfl := Option.some.inj h
    rw [Nat.zero_add]
    exact hT
  | p + 1, S, hp, h => by
    obtain ⟨S0, h0⟩ := st_before h
    have ih := st_shift hT (p := p) (by omega) h0
    have hs := st_succ h0 h
    have e : st (a ++ m ++ z) (p + 1 + a.length) = (st (a ++ m ++ z) (p + a.length)).bind fun S => stepS (p + a.length) ((a ++ m ++ z).getD (p + a.length) 0) S := by
      rw [show p + 1 + a.length = p + a.length + 1 from by omega]
      rfl
    rw [e, ih, getD_mid (by omega)]
    exact step_shift hs
theorem st_front {a z : List Int} : ∀ {p : Nat}, p ≤ a.length → st (a ++ z) p = st a p
  | 0, _ => rfl
  | p + 1, hp => by
    have e1 : st (a ++ z) (p + 1) = (st (a ++ z) p).bind fun S => stepS p ((a ++ z).getD p 0) S := rfl
    have e2 : st a (p + 1) = (st a p).bind fun S => stepS p (a.getD p 0) S := rfl
    rw [e1, e2, st_front (p := p) (by omega)]
    have : (a ++ z).getD p 0 = a.getD p 0 := by
      rw [List.getD_eq_getElem?_getD, List.getD_eq_getElem?_getD, List.getElem?_append_left (by omega)]
    rw [this]
/-- What nested ones stand in, moved on. -/
theorem sIn_shift {a m z : List Int} {T : Stk} (hm : Nested m) (hT : st (a ++ m ++ z) a.length = some T) {p : Nat} (hp : p < m.length) : sIn (a ++ m ++ z) (p + a.length) = shS a.length T (sIn m p) := by
  have h0 := sAt_st hm (p := p) (by omega)
  have h1 := st_shift hT (p := p) (by omega) h0
  have hA : sAt (a ++ m ++ z) (p + a.length) = shS a.length T (sAt m p) := by
    unfold sAt at h1 ⊢
    rw [h1]
    rfl
  unfold sIn
  rw [hA, getD_mid hp]
  by_cases g : m.getD p 0 = 5 ∨ m.getD p 0 = 11
  · rw [if_pos g, if_pos g]
    have hne : ∃ x S, sAt m p = x :: S := by
      rcases g with g | g
      · obtain ⟨k, o, S, t1, _⟩ := top_else hm hp g
        exact ⟨_, _, Option.some.inj (h0.symm.trans t1)⟩
      · obtain ⟨k, f, o, S, t1, _⟩ := top_end hm hp g
        exact ⟨_, _, Option.some.inj (h0.symm.trans t1)⟩
    obtain ⟨x, S, e⟩ := hne
    rw [e]
    rfl
  · rw [if_neg g, if_neg g]
/-- One behind the other: nested, and as deep. -/
theorem nested_app {a b : List Int} (ha : Nested a) (hb : Nested b) : Nested (a ++ b) ∧ depL (a ++ b) (a ++ b).length = depL a a.length ++ depL b b.length := by
  have hT : st (a ++ b ++ []) a.length = some [] := by
    rw [List.append_assoc, st_front (Nat.le_refl _)]
    exact ha
  have hN : Nested (a ++ b) := by
    have := st_shift hT (Nat.le_refl _) hb
    rw [List.append_nil] at this
    unfold Nested
    rw [List.length_append, Nat.add_comm]
    exact this
  refine ⟨hN, ?_⟩
  unfold depL
  rw [List.length_append, List.range_add, List.map_append, List.map_map]
  congr 1
  · apply List.map_congr_left
    intro p hp
    have hp : p < a.length := by simpa using hp
    unfold aroundD sIn sAt
    rw [st_front (by omega)]
    have : (a ++ b).getD p 0 = a.getD p 0 := by
      rw [List.getD_eq_getElem?_getD, List.getD_eq_getElem?_getD, List.getElem?_append_left hp]
    rw [this]
  · apply List.map_congr_left
    intro p hp
    have hp : p < b.length := by simpa using hp
    have h := sIn_shift hb hT hp
    rw [List.append_nil] at h
    show ((aroundD (a ++ b) (a.length + p)).length : Int) = _
    unfold aroundD
    rw [Nat.add_comm, h]
    simp [shS]
/-- In a block: nested, one deeper. -/
theorem nested_in {l : List Int} (h : Nested l) : Nested (2 :: l ++ [11]) ∧ (∀ p, p < l.length → (aroundD (2 :: l ++ [11]) (p + 1)).length = (aroundD l p).length + 1) ∧ (aroundD (2 :: l ++ [11]) 0).length = 0 ∧ (aroundD (2 :: l ++ [11]) (l.length + 1)).length = 0 ∧ (dEnd (2 :: l ++ [11]) 0).1 = ((l.length + 1 : Nat) : Int) := by
  have hT : st ([2] ++ l ++ [11]) [(2 : Int)].length = some [(0, false, -1)] := rfl
  have hend := st_shift hT (Nat.le_refl _) h
  have e0 : st (2 :: l ++ [11]) (l.length + 1) = some [(0, false, -1)] := hend
  have g11 : (2 :: l ++ [11] : List Int).getD (l.length + 1) 0 = 11 := by
    rw [List.getD_eq_getElem?_getD, List.getElem?_append_right (by simp)]
    simp
  have hN : Nested (2 :: l ++ [11]) := by
    unfold Nested
    have el : (2 :: l ++ [11] : List Int).length = l.length + 1 + 1 := by simp
    have e1 : st (2 :: l ++ [11]) (l.length + 1 + 1) = (st (2 :: l ++ [11]) (l.length + 1)).bind fun S => stepS (l.length + 1) ((2 :: l ++ [11] : List Int).getD (l.length + 1) 0) S := rfl
    rw [el, e1, e0, g11]
    rfl
  have hA : sAt (2 :: l ++ [11]) (l.length + 1) = [(0, false, -1)] := by unfold sAt; rw [e0]; rfl
  refine ⟨hN, fun p hp => ?_, ?_, ?_, ?_⟩
  · have hh := sIn_shift h hT hp
    have hh : sIn (2 :: l ++ [11]) (p + 1) = shS 1 [(0, false, -1)] (sIn l p) := hh
    unfold aroundD
    rw [hh]
    simp [shS]
  · unfold aroundD sIn sAt
    simp [st]
  · unfold aroundD sIn
    rw [if_pos (.inr g11), hA]
    rfl
  · obtain ⟨k, f, o, S, t1, t2, t3, t4⟩ := top_end hN (p := l.length + 1) (by simp) g11
    rw [e0] at t1
    have t1 := Option.some.inj t1
    simp only [List.cons.injEq, Prod.mk.injEq] at t1
    obtain ⟨⟨rfl, _, _⟩, _⟩ := t1
    rw [t4]
/-- An end, moved on. -/
theorem end_shift {a m z : List Int} {T : Stk} (hm : Nested m) (hN : Nested (a ++ m ++ z)) (hT : st (a ++ m ++ z) a.length = some T) {j : Nat} (hj : j < m.length) (ho : opn (m.getD j 0) = true) : (dEnd (a ++ m ++ z) (j + a.length)).1 = (dEnd m j).1 + (a.length : Int) := by
  obtain ⟨e, o, c1, c2, c3, c4, _⟩ := nested_closed hm hj ho
  obtain ⟨f, o2, t1, _⟩ := top_is hm hj ho (e := e) (by rw [c1])
  have h0 := sAt_st hm (p := e) (by omega)
  rw [t1] at h0
  have h1 := st_shift hT (p := e) (by omega) h0
  obtain ⟨k, f', o', S, u1, u2, u3, u4⟩ := top_end hN (p := e + a.length) (by simp; omega) (by rw [getD_mid c3]; exact c4)
  rw [h1] at u1
  have u1 := Option.some.inj u1
  simp only [shS, List.map_cons, mv, List.cons_append, List.cons.injEq, Prod.mk.injEq] at u1
  obtain ⟨⟨rfl, _, _⟩, _⟩ := u1
  rw [u4, c1]
  simp
/-- Out of the block: one label farther; the innermost target one farther. -/
theorem tgt_in {l : List Int} (h : Nested l) {p : Nat} (hp : p < l.length) : ∃ x : Int, tgt l p 0 = (x, true) ∧ tgt (2 :: l ++ [11]) ((p : Int) + 1) 0 = (x + 1, true) ∧ tgt (2 :: l ++ [11]) ((p : Int) + 1) ((aroundD l p).length + 1) = ((l.length : Int) + 2, true) := by
  obtain ⟨hN, hd, _, _, hE⟩ := nested_in h
  obtain ⟨ms, hms⟩ := dM_some h
  obtain ⟨ms2, hms2⟩ := dM_some hN
  have hT : st ([2] ++ l ++ [11]) [(2 : Int)].length = some [(0, false, -1)] := rfl
  have hlen : (2 :: l ++ [11] : List Int).length = l.length + 2 := by simp
  have hsI : sIn (2 :: l ++ [11]) (p + 1) = shS 1 [(0, false, -1)] (sIn l p) := sIn_shift h hT hp
  have hdp := hd p hp
  have e1 : ((p : Int) + 1).toNat = p + 1 := by omega
  have t1 : tgt l p 0 = if (aroundD l p).length = 0 then ((l.length : Int), true) else if l.getD ((aroundD l p).getD 0 0).toNat 0 = 3 then ((aroundD l p).getD 0 0, true) else ((dEnd l ((aroundD l p).getD 0 0).toNat).1, true) := by
    unfold tgt
    rw [hms]
    simp only
    rw [if_neg (by omega), Int.toNat_natCast, if_neg (by omega)]
    by_cases g : (aroundD l p).length = 0
    · rw [if_pos (by omega), if_pos g]
    · rw [if_neg (by omega), if_neg g]
      rfl
  have t2 : tgt (2 :: l ++ [11]) ((p : Int) + 1) 0 = if (2 :: l ++ [11] : List Int).getD ((aroundD (2 :: l ++ [11]) (p + 1)).getD 0 0).toNat 0 = 3 then ((aroundD (2 :: l ++ [11]) (p + 1)).getD 0 0, true) else ((dEnd (2 :: l ++ [11]) ((aroundD (2 :: l ++ [11]) (p + 1)).getD 0 0).toNat).1, true) := by
    unfold tgt
    rw [hms2]
    simp only
    rw [hlen, if_neg (by omega), e1, hdp, if_neg (by omega), if_neg (by omega)]
    rfl
  have t3 : tgt (2 :: l ++ [11]) ((p : Int) + 1) ((aroundD l p).length + 1) = ((l.length : Int) + 2, true) := by
    unfold tgt
    rw [hms2]
    simp only
    rw [hlen, if_neg (by omega), e1, hdp, if_neg (by omega), if_pos (by omega)]
    simp
  cases hs : sIn l p with
  | nil =>
    have g : (aroundD l p).length = 0 := by unfold aroundD; rw [hs]; rfl
    refine ⟨(l.length : Int), by rw [t1, if_pos g], ?_, t3⟩
    have : (aroundD (2 :: l ++ [11]) (p + 1)).getD 0 0 = 0 := by unfold aroundD; rw [hsI, hs]; rfl
    rw [t2, this]
    have g2 : (2 :: l ++ [11] : List Int).getD (0 : Int).toNat 0 = 2 := rfl
    rw [g2, if_neg (by decide)]
    have : (dEnd (2 :: l ++ [11]) (0 : Int).toNat).1 = ((l.length + 1 : Nat) : Int) := hE
    rw [this]
    simp
  | cons x S =>
    obtain ⟨j, f, o⟩ := x
    have g : ¬ (aroundD l p).length = 0 := by unfold aroundD; rw [hs]; simp
    have a1 : (aroundD l p).getD 0 0 = (j : Int) := by unfold aroundD; rw [hs]; rfl
    have a2 : (aroundD (2 :: l ++ [11]) (p + 1)).getD 0 0 = ((j + 1 : Nat) : Int) := by unfold aroundD; rw [hsI, hs]; rfl
    obtain ⟨k, b1, b2, b3⟩ := around_mem h hp (i := 0) (by omega)
    rw [a1] at b1
    obtain rfl : j = k := by omega
    have g2 : (2 :: l ++ [11] : List Int).getD (j + 1) 0 = l.getD j 0 := getD_mid (a := [2]) (z := [11]) (by omega)
    have g3 : (dEnd (2 :: l ++ [11]) (j + 1)).1 = (dEnd l j).1 + 1 := end_shift (a := [2]) (z := [11]) h hN hT (by omega) b3
    rw [t1, if_neg g, a1, t2, a2, Int.toNat_natCast, Int.toNat_natCast, g2, g3]
    by_cases h3 : l.getD j 0 = 3
    · rw [if_pos h3, if_pos h3]
      exact ⟨_, rfl, by simp, t3⟩
    · rw [if_neg h3, if_neg h3]
      exact ⟨_, rfl, rfl, t3⟩
/-- A target: one goes out to where it is as much less deep. -/
theorem tgt_out {ops : List Int} (h : Nested ops) {p n : Nat} (hp : p < ops.length) : ((aroundD ops p).length < n → tgt ops p n = (0, false)) ∧ (n = (aroundD ops p).length → tgt ops p n = ((ops.length : Int), true)) ∧ (n < (aroundD ops p).length → ∃ t : Nat, tgt ops p n = ((t : Int), true) ∧ t < ops.length ∧ (aroundD ops t).length + n + 1 = (aroundD ops p).length ∧ (ops.getD t 0 = 11 ∧ p < t ∨ ops.getD t 0 = 3 ∧ t < p)) := by
  obtain ⟨ms, hms⟩ := dM_some h
  have t1 : tgt ops p n = if ((aroundD ops p).length : Int) < (n : Int) then (0, false) else if (n : Int) = ((aroundD ops p).length : Int) then ((ops.length : Int), true) else if ops.getD ((aroundD ops p).getD n 0).toNat 0 = 3 then ((aroundD ops p).getD n 0, true) else ((dEnd ops ((aroundD ops p).getD n 0).toNat).1, true) := by
    unfold tgt
    rw [hms]
    simp only
    rw [if_neg (by omega), Int.toNat_natCast]
    by_cases g : ((aroundD ops p).length : Int) < (n : Int)
    · rw [if_pos (.inr g), if_pos g]
    · rw [if_neg (by omega), if_neg g]
      rfl
  refine ⟨fun g => ?_, fun g => ?_, fun g => ?_⟩
  · rw [t1, if_pos (by omega)]
  · rw [t1, if_neg (by omega), if_pos (by omega)]
  · have hl : ∀ q, (aroundD ops q).length = (sIn ops q).length := fun q => by simp [aroundD]
    obtain ⟨j, e, c1, c2, c3, c4, c5, c6, c7, c8, c9⟩ := sIn_split h hp (n := n) (by rw [← hl]; exact g)
    rw [t1, if_neg (by omega), if_neg (by omega), c1, Int.toNat_natCast, c5]
    by_cases h3 : ops.getD j 0 = 3
    · rw [if_pos h3]
      exact ⟨j, rfl, by omega, by rw [hl, hl]; exact c4, .inr ⟨h3, c2⟩⟩
    · rw [if_neg h3]
      exact ⟨e, rfl, c7, by rw [hl, hl]; exact c9, .inl ⟨c8, c6⟩⟩
end Go.Proofs.YtdmidagcdhhlhaaDoor.Bod
