/- A draft is made of a stack, walked. -/
import Derived.Test.YtlappkflnlbfcaaStkOpen
namespace Go.Proofs.Ytlappkflnlbfcaa.Stk
open Go.RowKit Row9
set_option maxRecDepth 100000
set_option maxHeartbeats 2000000
set_option linter.unusedVariables false
/-- What is open, its ends laid anew so far. -/
structure Anew (w0 w : World) (B : Nat) (vv cv : Value) (l l' : List CtV) (k : Nat) : Prop where
  len : l'.length = l.length
  fst : l'.map (·.1) = l.map (·.1)
  cO : Own elP w B cv l'
  new : ∀ j p, j < k → l'[j]? = some p → EndOk w B vv p
  old : ∀ j, k ≤ j → l'[j]? = l[j]?
theorem flat_end (l : List CtV) (k : Nat) (p : CtV) (v : Value) (h : l[k]? = some p) : (l.flatMap elP.enc).set (k * 4 + 1) v = (l.set k (p.1, v)).flatMap elP.enc := by
  induction l generalizing k with
  | nil => cases h
  | cons x l ih =>
    cases k with
    | zero =>
      obtain rfl : x = p := by simpa using h
      rfl
    | succ k =>
      rw [List.getElem?_cons_succ] at h
      rw [List.set_cons_succ, List.flatMap_cons, List.flatMap_cons, List.set_append_right _ _ (by show 4 ≤ _; omega), show (k + 1) * 4 + 1 - (elP.enc x).length = k * 4 + 1 from by show (k + 1) * 4 + 1 - 4 = _; omega, ih k h]
theorem own_end {w : World} {B g n c k : Nat} {l : List CtV} {p : CtV} {v : Value} (h : Own elP w B (.slice (some ⟨g, 0, none⟩) n c) l) (hk : l[k]? = some p) : Own elP (w.setCell ⟨g, k * 4 + 1, none⟩ v) B (.slice (some ⟨g, 0, none⟩) n c) (l.set k (p.1, v)) := by
  have hkl := (List.getElem?_eq_some_iff.1 hk).1
  have := own_set (v := v) (i := k * 4 + 1) h (by show _ < l.length * 4; omega)
  rw [flat_end l k p v hk] at this
  have e : (l.set k (p.1, v)).length = l.length := by simp
  unfold Row9.Own
  rw [e]
  exact this
theorem fst_set (l : List CtV) (k : Nat) (p : CtV) (v : Value) (h : l[k]? = some p) : (l.set k (p.1, v)).map (·.1) = l.map (·.1) := by
  rw [List.map_set]
  apply List.ext_getElem?
  intro i
  rw [List.getElem?_set]
  split
  · rename_i e
    subst e
    rw [List.getElem?_map, h]
    have hkl := (List.getElem?_eq_some_iff.1 h).1
    simp [hkl]
  · rfl
/-- One end more. -/
theorem Anew.step {w0 w w' : World} {B g n c k : Nat} {vv : Value} {l l' : List CtV} {p : CtV} {v : Value} (h : Anew w0 w B vv (.slice (some ⟨g, 0, none⟩) n c) l l' k) (hk : l'[k]? = some p) (hw : Below w.heap.size w w') (he : EndOk w' B vv (p.1, v)) :
    Anew w0 (w'.setCell ⟨g, k * 4 + 1, none⟩ v) B vv (.slice (some ⟨g, 0, none⟩) n c) l (l'.set k (p.1, v)) (k + 1) := by
  have hkl := (List.getElem?_eq_some_iff.1 hk).1
  have hO := own_keep h.cO hw
  have key : ∀ {s n' : Nat} {u : Value} {xs : List Value}, w'.ownsRow B 5 s u n' xs → (w'.setCell ⟨g, k * 4 + 1, none⟩ v).ownsRow B 5 s u n' xs := fun hh =>
    own_stay hh fun i hi => chg_set _ g (k * 4 + 1) _ i (World.ownsRow.lt hh i hi).2 (own_ne hh hO (by decide) hi)
  refine ⟨by rw [List.length_set]; exact h.len, (fst_set l' k p v hk).trans h.fst, own_end hO hk, fun j q hj hq => ?_, fun j hj => ?_⟩
  · rw [List.getElem?_set] at hq
    split at hq
    · rename_i e
      subst e
      obtain rfl := Option.some.inj hq
      exact ⟨key he.1, he.2⟩
    · have := (h.new j q (by omega) hq).keep hw
      exact ⟨key this.1, this.2⟩
  · rw [List.getElem?_set, if_neg (by omega)]
    exact h.old j (by omega)
theorem Anew.far {w0 w w' : World} {B : Nat} {vv cv : Value} {l l' : List CtV} {k : Nat} (h : Anew w0 w B vv cv l l' k) (hb : Below w.heap.size w w') : Anew w0 w' B vv cv l l' k :=
  ⟨h.len, h.fst, own_keep h.cO hb, fun j p hj hp => (h.new j p hj hp).keep hb, h.old⟩
theorem box2_keep {w w5 : World} {x y : Value} {t : TypeId} (h : Below (w.alloc (.cells #[x, y] t)).heap.size (w.alloc (.cells #[x, y] t)) w5) : w5.cell? ⟨w.heap.size, 0, none⟩ = some x ∧ w5.cell? ⟨w.heap.size, 1, none⟩ = some y := by
  have hl : w.heap.size < (w.alloc (.cells #[x, y] t)).heap.size := by rw [size_new]; omega
  exact ⟨(h.cell (p := ⟨w.heap.size, 0, none⟩) hl).trans (cells_at (heap_new w _) 0).1, (h.cell (p := ⟨w.heap.size, 1, none⟩) hl).trans (cells_at (heap_new w _) 1).1⟩
def MadeD (w : World) (s : List Int) (l : List CtV) (e : Ending) (w' : World) : Prop := ∃ D vv cv l', e = .returned (.pointer (some ⟨D, 0, none⟩)) ∧ Dr w' w.heap.size D vv cv s l' ∧ l'.map (·.1) = l.map (·.1) ∧ Below w.heap.size w w'
theorem drafted_any {a c : Value} {vals : List Int} {l : List CtV} {w : World} (ha : Row elB w a vals) (hc : Row elP w c l) (hht : ∀ p ∈ l, 0 ≤ p.1.ht) (hvl : vals.length ≤ 1000000) (hll : l.length ≤ 1000000) (hel : ∀ p ∈ l, p.1.fin.length ≤ 1000000) :
    Calls Try.prog 45 #[.agg #[a, c]] w (MadeD w vals l) := by
  obtain ⟨B, hB⟩ : ∃ B, w.heap.size = B := ⟨_, rfl⟩
  have HBw := Lib.hid hB
  have HA := Lib.hid (fun W (hW : Below w.heap.size w W) => clone_any (ha.keep hW) hvl)
  have HC := Lib.hid (fun W (hW : Below w.heap.size w W) => clonec_any (hc.keep hW) hll)
  have HE := Lib.hid (fun (p : CtV) (hp : p ∈ l) W (hW : Below w.heap.size w W) => clone_any ((hc.2 p hp).1.keep hW) (hel p hp))
  have HEo := Lib.hid (fun (p : CtV) (hp : p ∈ l) => (hc.2 p hp).1.form)
  have HER := Lib.hid (fun (p : CtV) (hp : p ∈ l) => (⟨(hc.2 p hp).1.2, (hc.2 p hp).2.1, (hc.2 p hp).2.2, hht p hp⟩ : (∀ x ∈ p.1.fin, 0 ≤ x ∧ x < 256) ∧ w64 p.1.op ∧ w64 p.1.ht ∧ 0 ≤ p.1.ht))
  have HVR := Lib.hid ha.2
  have HW := Lib.hid (below_new w (.cells #[a, c] 30))
  obtain ⟨Pa, ca, rfl, _⟩ := ha.form
  obtain ⟨Pc, cc_, rfl, _⟩ := hc.form
  obtain ⟨nv, hnv⟩ : ∃ n, vals.length = n := ⟨_, rfl⟩
  obtain ⟨n, hn⟩ : ∃ n, l.length = n := ⟨_, rfl⟩
  rw [hnv] at HA HW ⊢
  rw [hn] at HC HW hll ⊢
  have HNV := Lib.hid hnv
  have HN := Lib.hid hn
  clear ha hc hht hvl hel hnv hn hB
  go_enter Try.func45, Try.ntmps45
  go_wp2_with fail
  go_region_law (first
    | (go_simp; go_at_call 41; refine (HA.out _ HW.out.drew).mono ?_; rintro en w5 ⟨⟨vA, rfl, hoA⟩, hbA⟩; obtain ⟨PA, cA, hvA⟩ := hoA.form; rw [HNV.out] at hvA; subst hvA; have HOA := Lib.hid hoA; have HBA := Lib.hid (HW.out.drew.trans (hbA.mono HW.out.drew.size)); obtain ⟨t0, t1⟩ := box2_keep ((below_drew1 _).trans hbA); clear hoA hbA)
    | (go_simp; go_at_call 51; refine (HC.out w5 HBA.out).mono ?_; rintro en w9 ⟨⟨vC, rfl, hoC⟩, hbC⟩; obtain ⟨PC, cC, hvC⟩ := hoC.form; rw [HN.out] at hvC; subst hvC; have HOC := Lib.hid (own_low hoC HBA.out.size); have HOA9 := Lib.hid (own_low (own_keep HOA.out hbC) (show w.heap.size ≤ _ from HW.out.drew.size)); have HB9 := Lib.hid (HBA.out.trans (hbC.mono HBA.out.size)); clear hoC hbC)
    | (go_simp; go_at_call 51; refine (HC.out _ HW.out.drew).mono ?_; rintro en w6 ⟨⟨vC, rfl, hoC⟩, hbC⟩; obtain ⟨PC, cC, hvC⟩ := hoC.form; rw [HN.out] at hvC; subst hvC; have HOC6 := Lib.hid hoC; have HBC := Lib.hid (HW.out.drew.trans (hbC.mono HW.out.drew.size)); obtain ⟨t0, t1⟩ := box2_keep ((below_drew1 _).trans hbC); clear hoC hbC)
    | (go_simp; go_at_call 41; refine (HA.out w6 HBC.out).mono ?_; rintro en w9 ⟨⟨vA, rfl, hoA⟩, hbA⟩; obtain ⟨PA, cA, hvA⟩ := hoA.form; rw [HNV.out] at hvA; subst hvA; have HOA9 := Lib.hid (own_low hoA HBC.out.size); have HOC := Lib.hid (own_low (own_keep HOC6.out hbA) (show w.heap.size ≤ _ from HW.out.drew.size)); have HB9 := Lib.hid (HBC.out.trans (hbA.mono HBC.out.size)); clear hoA hbA))
  all_goals (
    have HBn := Lib.hid (HB9.out.trans ((below_new w9 (drCells (.slice PA nv cA) (.slice PC n cC) (.pointer none))).mono HB9.out.size))
    have HDn := Lib.hid (heap_new w9 (drCells (.slice PA nv cA) (.slice PC n cC) (.pointer none)))
    have HOn := Lib.hid (own_keep HOA9.out (below_new w9 (drCells (.slice PA nv cA) (.slice PC n cC) (.pointer none))))
    have HCn := Lib.hid (own_keep HOC.out (below_new w9 (drCells (.slice PA nv cA) (.slice PC n cC) (.pointer none))))
    have HSn := Lib.hid HB9.out.size
    unfold drCells at HBn HDn HOn HCn
    obtain ⟨D, hD⟩ : ∃ D, w9.heap.size = D := ⟨_, rfl⟩
    rw [hD] at HDn HSn ⊢
    obtain ⟨c0, c1, c2, f0, f1, f2⟩ := dr_cells HDn.out
    clear hD t0 t1
    go_wp2_with fail
    generalize w9.alloc _ = w10 at *
    have HPOS : Hid (0 < n → ∃ g, PC = some ⟨g, 0, none⟩) := fun h0 => by
      obtain ⟨g, c, hv, _⟩ := own_pos (T := elP) HCn.out (by intro e; have := HN.out; rw [e] at this; simp at this; omega)
      injection hv with e1
      exact ⟨g, e1⟩
    have HCAP : Hid (n ≤ cC) := by
      obtain ⟨_, ⟨hv, h0⟩ | ⟨g', cap, cur, hv, _, _, hle, _⟩⟩ := HCn.out
      · rw [HN.out] at h0
        show _ ≤ _
        omega
      · injection hv with _ _ e3
        subst e3
        rw [HN.out] at hle
        exact hle
    clear c0 c1 c2 f0 f1 f2
    go_loopw [20] (fun k' wr => ∃ (k : Nat) (l' : List CtV), k' = .int .i64 (k : Int) ∧ k ≤ n ∧ Below w.heap.size w wr ∧ wr.heap[D]? = some (drCells (.slice PA nv cA) (.slice PC n cC) (.pointer none)) ∧ Own elB wr w.heap.size (.slice PA nv cA) vals ∧ Anew w wr w.heap.size (.slice PA nv cA) (.slice PC n cC) l l' k) (fun k' _ => n - (intOf k').toNat)
    case atStart => exact ⟨0, l, by go_num, Nat.zero_le _, HBn.out, HDn.out, HOn.out, ⟨rfl, rfl, HCn.out, fun j p hj => absurd hj (by omega), fun j _ => rfl⟩⟩
    case round =>
      obtain ⟨k, l', rfl, hk, hb, hd, ho, hA⟩ := hrel
      have HB := Lib.hid hb
      have HD := Lib.hid hd
      have HO := Lib.hid ho
      have HAn := Lib.hid hA
      have HSr := Lib.hid (lt_of_heap hd)
      clear hb hd ho hA
      by_cases hlt : k < n
      · obtain ⟨g, rfl⟩ := HPOS.out (by omega)
        obtain ⟨p, hp⟩ : ∃ p, l[k]? = some p := ⟨_, List.getElem?_eq_getElem (by rw [HN.out]; exact hlt)⟩
        have hp' : l'[k]? = some p := (HAn.out.old k (Nat.le_refl k)).trans hp
        have HP := Lib.hid hp'
        have hpm := List.mem_of_getElem? hp
        obtain ⟨Pe, ce, hpe, _⟩ := HEo.out p hpm
        obtain ⟨ne, hne⟩ : ∃ ne, p.1.fin.length = ne := ⟨_, rfl⟩
        rw [hne] at hpe
        have HNE := Lib.hid hne
        have HCl := Lib.hid (HE.out p hpm wr.drew (HB.out.trans ((below_drew1 wr).mono HB.out.size)))
        have HRg := Lib.hid (HER.out p hpm)
        rw [hpe] at HCl
        have hcell : wr.cell? ⟨g, k * 4 + 1, none⟩ = some (.slice Pe ne ce) := by
          have e := World.ownsRow.cells HAn.out.cO (g := g) rfl (k * 4 + 1) (.slice Pe ne ce) (by
            rw [show k * 4 + 1 = k * elP.s + 1 from rfl, flat_get elP l' k 1 p hp' (by decide), ← hpe]
            rfl)
          rw [add_plain, Nat.zero_add] at e
          exact e
        have HG := Lib.hid ((World.ownsRow.lt HAn.out.cO g rfl).2)
        have HAr := Lib.hid (HAn.out.far (below_drew1 wr))
        have i1 : (0 : Int) ≤ (k : Int) := by omega
        have i2 : (k : Int) < (n : Int) := by omega
        have hw1 : IntKind.i64.wrap ((k : Int) + 1) = (k : Int) + 1 := IntWalk.i64_in _ (by omega)
        obtain ⟨c0, c1, c2, f0, f1, f2⟩ := dr_cells HD.out
        clear hp hp' hpm hpe hne
        go_wp2_with fail
        go_region_law (go_simp; go_at_call 41; refine (HCl.out).mono ?_; rintro en w6 ⟨⟨vE, rfl, hoE⟩, hbE⟩; obtain ⟨PE, cE, hvE⟩ := hoE.form; rw [HNE.out] at hvE; subst hvE; have HOE := Lib.hid hoE; have HBE := Lib.hid ((below_drew1 wr).trans hbE); have HBE0 := Lib.hid hbE; obtain ⟨r0, r1, r2, s0, s1, s2⟩ := dr_cells ((((below_drew1 wr).trans hbE).block D HSr.out).trans HD.out); have fg := own_frozen (T := elP) (HAn.out.far ((below_drew1 wr).trans hbE)).cO (k * 4 + 1); have hg6 := ((((below_drew1 wr).trans hbE).cell (p := ⟨g, k * 4 + 1, none⟩) HG.out).trans hcell); clear hoE hbE)
        all_goals (
          have HEok : Hid (EndOk w6 w.heap.size (.slice PA nv cA) (p.1, .slice PE ne cE)) :=
            ⟨own_low HOE.out (Nat.le_trans HB.out.size (Nat.le_refl _)), (fun i hi e => by
              have h1 := (World.ownsRow.lt HOE.out i hi).1
              have h2 := (World.ownsRow.lt HO.out i e.symm).2
              have h3 : wr.drew.heap.size = wr.heap.size := rfl
              omega), HRg.out⟩
          have HCO := Lib.hid (own_keep HAn.out.cO HBE.out)
          have HO6 := Lib.hid (own_keep HO.out HBE.out)
          have HD6 := Lib.hid ((HBE.out.block D HSr.out).trans HD.out)
          have HB6 := Lib.hid (HB.out.trans (HBE.out.mono HB.out.size))
          have HGB := Lib.hid ((World.ownsRow.lt HAn.out.cO g rfl).1)
          clear c0 c1 c2 f0 f1 f2 r0 r1 r2 s0 s1 s2 hcell hg6 fg
          go_wp2_with fail
          go_roundw
          case rel =>
            refine ⟨k + 1, l'.set k (p.1, .slice PE ne cE), by go_num, hlt, HB6.out.setCell (p := ⟨g, k * 4 + 1, none⟩) HGB.out _, ?_, ?_, HAn.out.step HP.out HBE.out HEok.out⟩
            · rw [chg_set _ g (k * 4 + 1) _ D (lt_of_heap HD6.out) (by intro e; exact own_notD HCO.out HD6.out (by decide) (k := g) rfl (Option.some.inj e).symm)]
              exact HD6.out
            · exact own_stay HO6.out fun i hi => chg_set _ g (k * 4 + 1) _ i (World.ownsRow.lt HO6.out i hi).2 (own_ne HO6.out HCO.out (by decide) hi)
          case measure => simp [intOf]; omega)
      · obtain rfl : k = n := by omega
        have HSe := Lib.hid (settle_any HD.out (fun h => HPOS.out h) HCAP.out hll)
        have HDB : Hid (w.heap.size ≤ D) := HSn.out
        go_wp2_with fail
        refine HSe.out.mono ?_
        rintro e w8 ⟨rfl, hd8, hb8⟩
        have HRw := Lib.hid (Rw.but (⟨HO.out, HVR.out, HAn.out.cO, fun p hp => by
          obtain ⟨j, hj⟩ := List.getElem?_of_mem hp
          have hjl := (List.getElem?_eq_some_iff.1 hj).1
          rw [HAn.out.len, HN.out] at hjl
          exact HAn.out.new j p hjl hj⟩ : Rw wr w.heap.size _ _ vals l') HD.out hb8)
        have HB8 := Lib.hid (HB.out.trans (hb8.below HDB.out HSr.out))
        have HD8 := Lib.hid hd8
        have HF := Lib.hid HAn.out.fst
        clear hd8 hb8
        go_wp2_with fail
        exact bodyPost_ret (v := .pointer (some ⟨D, 0, none⟩)) (by simp [results, Try.results45, go_sem]) rfl ⟨D, _, _, l', rfl, ⟨HDB.out, HD8.out, HRw.out.vO, HRw.out.vR, HRw.out.cO, HRw.out.ok⟩, HF.out, HB8.out⟩)
end Go.Proofs.Ytlappkflnlbfcaa.Stk
