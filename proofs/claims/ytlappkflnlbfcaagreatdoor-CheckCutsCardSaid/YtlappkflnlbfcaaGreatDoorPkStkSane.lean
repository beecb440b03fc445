/- StkOpen, StkMade, StkSane. -/
import Derived.Test.YtlappkflnlbfcaaGreatDoorPkStkClose
import Derived.Deep.RegionLaw
section
/- The draft's changes, walked: open. -/
namespace Go.Proofs.YtlappkflnlbfcaaGreatDoor.Stk
open Go.RowKit Row9
set_option maxRecDepth 100000
set_option maxHeartbeats 2000000
set_option linter.unusedVariables false
theorem Rw.left {w : World} {B D : Nat} {vv cv pv : Value} {vals : List Int} {l : List CtV} (h : Rw w B vv cv vals l) (hd : w.heap[D]? = some (drCells vv cv pv)) : Left w D ⟨vals, l.map (·.1)⟩ := ⟨_, _, _, l, hd, h.vO.row h.vR, h.rowP, rfl⟩
/-- One more that is open. -/
theorem Rw.opened {w w' : World} {B : Nat} {vv cv cv' : Value} {vals : List Int} {l : List CtV} {p : CtV} (h : Rw w B vv cv vals l) (hp : EndOk w B vv p) (hc : Own elP w' B cv' (l ++ [p])) (hch : Chg w w' cv.ownBlock) : Rw w' B vv cv' vals (l ++ [p]) := by
  have key : ∀ {s n : Nat} {v : Value} {xs : List Value}, w.ownsRow B 5 s v n xs → w'.ownsRow B 5 s v n xs := fun hh => own_stay hh fun k hk => hch k (World.ownsRow.lt hh k hk).2 (own_ne hh h.cO (by decide) hk)
  refine ⟨key h.vO, h.vR, hc, fun r hr => ?_⟩
  rcases List.mem_append.1 hr with hr | hr
  · exact ⟨key (h.ok r hr).1, (h.ok r hr).2⟩
  · obtain rfl := List.mem_singleton.1 hr
    exact ⟨key hp.1, hp.2⟩
theorem below_new (w : World) (o : Obj) : Below w.heap.size w (w.alloc o) := (Below.refl _ _).alloc (Nat.le_refl _) o
theorem Dr.next {w w' : World} {B D : Nat} {vv cv : Value} {vals : List Int} {l : List CtV} {o : Obj} (h : Dr w B D vv cv vals l) (hc : Chg (w.alloc o) w' cv.ownBlock) : w'.heap[D]? = some (drCells vv cv (innP cv)) := by
  have h1 := h.keep (below_new w o)
  rw [hc D h1.lt (fun e => own_notD h1.cO h1.blk (by decide) e.symm rfl)]
  exact h1.blk
theorem Dr.openedA {w w' : World} {B D : Nat} {vv cv cv' : Value} {vals : List Int} {l : List CtV} {p : CtV} {o : Obj} (h : Dr w B D vv cv vals l) (hp : EndOk w B vv p) (hc : Own elP w' B cv' (l ++ [p])) (hch : Chg (w.alloc o) w' cv.ownBlock) : Rw w' B vv cv' vals (l ++ [p]) :=
  (h.rw.keep (below_new w o)).opened (hp.keep (below_new w o)) hc hch
theorem open_any {B D : Nat} {vv cv x : Value} {op : Int} {vals xs : List Int} {l : List CtV} {w : World} (h : Dr w B D vv cv vals l) (hx : Row elB w x xs) (hop : w64 op) (hl : vals.length ≤ 1000000) (hll : l.length + 1 ≤ 1000000) (hxl : xs.length ≤ 1000000) (hBw : B ≤ w.heap.size) :
    Calls Tryz.prog 144 #[.pointer (some ⟨D, 0, none⟩), .int .i64 op, x] w fun e w' => MadeTold D (chosen (mayE xs) 0 1) ⟨vals, l.map (·.1) ++ [⟨op, xs, vals.length, false⟩]⟩ e w' ∧ Below B w w' := by
  have HM := Lib.hid (mayend_any hx)
  obtain ⟨P, c, rfl, hc, hm⟩ := hx.form
  cases hq : mayE xs with
  | false =>
    rw [hq] at HM
    clear h hx hl hc hm hq hop hll hxl
    go_enter Tryz.func144, Tryz.ntmps144
    go_wp2_with fail
    refine HM.out.mono ?_
    rintro e w1 ⟨rfl, rfl⟩
    go_wp2_with fail
    exact bodyPost_ret (v := .int .i64 1) (by simp [results, Tryz.results144, go_sem]) rfl ⟨⟨rfl, fun h => absurd h (by decide)⟩, Below.refl _ _⟩
  | true =>
    rw [hq] at HM
    have HB := Lib.hid (below_drew1 w)
    have HH0 := Lib.hid h
    have HH := Lib.hid (h.keep HB.out)
    have HC := Lib.hid (clone_any (hx.keep HB.out) hxl)
    have HXR := Lib.hid hx.2
    have hD := h.hD
    have HDs := Lib.hid h.lt
    have HVB := Lib.hid (fun k hk => (World.ownsRow.lt h.vO k hk).2)
    obtain ⟨Pv, cv_, hv⟩ := h.vO.form
    obtain ⟨Pc, cc_, hcv⟩ := h.cO.form
    obtain ⟨nx, hnx⟩ : ∃ n, xs.length = n := ⟨_, rfl⟩
    obtain ⟨m, hm2⟩ : ∃ m, vals.length = m := ⟨_, rfl⟩
    obtain ⟨n, hn⟩ : ∃ n, l.length = n := ⟨_, rfl⟩
    rw [hm2] at hv hl ⊢
    rw [hnx] at HC HM ⊢
    rw [hn] at hcv hll
    subst hv hcv
    obtain ⟨b0, b1, b2, d0, d1, d2⟩ := dr_cells h.blk
    have HNX := Lib.hid hnx
    have HN := Lib.hid hn
    have HLL := Lib.hid hll
    have HOP := Lib.hid hop
    have HL : Hid (w64 (m : Int)) := ⟨by omega, by omega⟩
    have HM0 : Hid ((0 : Int) ≤ (m : Int)) := Lib.hid (by omega)
    clear h hx hl hc hm hq hnx hm2 hn hll hop
    go_enter Tryz.func144, Tryz.ntmps144
    go_wp2_with fail
    refine HM.out.mono ?_
    rintro e w1 ⟨rfl, rfl⟩
    go_wp2_with fail
    go_region_law (first
      | (go_simp; go_at_call 44; refine (HC.out).mono ?_; rintro en w6 ⟨⟨vE, rfl, hoE⟩, hbE⟩; obtain ⟨PE, cE, hvE⟩ := hoE.form; rw [HNX.out] at hvE; subst hvE; have HOE := Lib.hid hoE; have HBE := Lib.hid hbE; have HH6 := Lib.hid (HH.out.keep hbE); have hD6 := (HH.out.keep hbE).lt; obtain ⟨r0, r1, r2, s0, s1, s2⟩ := dr_cells (HH.out.keep hbE).blk; have HB6 := Lib.hid ((HB.out.mono hBw).trans (hbE.mono (show B ≤ w1.drew.heap.size from hBw))); clear hoE hbE)
      | (refine step_oneG elP 37 Tryz.underlying37 _ rfl (.tmp 15) (.tmp 26) rfl B _ l (⟨op, xs, (m : Int), false⟩, .slice PE nx cE) (n + 1) ⟨(HOE.out.row HXR.out).keep (Below.alloc (Below.refl _ _) (Nat.le_refl _) _), HOP.out, HL.out⟩ (by rfl) (own_keep HH6.out.cO (Below.alloc (Below.refl _ _) (Nat.le_refl _) _)) w6.heap.size (by rfl) (newG' elP w6 _ _ _ rfl rfl) (by rw [HN.out]) HLL.out (by decide) (Nat.le_trans (show B ≤ w6.heap.size from Nat.le_trans (show B ≤ w1.drew.heap.size from hBw) HBE.out.size) (by simp)) ?_; intro g7 c7 w7 ho7 hb7 hc7; have hd7 := HH6.out.next hc7; obtain ⟨r0, r1, r2, s0, s1, s2⟩ := dr_cells hd7))
    all_goals (
      have HE : Hid (EndOk w6 B (.slice Pv m cv_) (⟨op, xs, (m : Int), false⟩, .slice PE nx cE)) :=
        ⟨own_low HOE.out (show B ≤ w1.drew.heap.size from hBw), (fun k hk e => by
          have h1 := (World.ownsRow.lt HOE.out k hk).1
          have h2 : k < w1.drew.heap.size := HVB.out k e.symm
          omega), HXR.out, HOP.out, HL.out, HM0.out⟩
      have HR7 := Lib.hid (HH6.out.openedA HE.out ho7 hc7)
      have HD7 := Lib.hid hd7
      have HB7 := Lib.hid ((HB6.out.trans ((below_new w6 _).mono (Nat.le_trans (show B ≤ w1.drew.heap.size from hBw) HBE.out.size))).trans hb7)
      have HS7 := Lib.hid (lt_of_heap hd7)
      have HH8 : Hid ((w7.setCell ⟨D, 1, none⟩ (.slice (some ⟨g7, 0, none⟩) (n + 1) c7)).heap[D]? = some (drCells (.slice Pv m cv_) (.slice (some ⟨g7, 0, none⟩) (n + 1) c7) (innP (.slice Pc n cc_)))) := by show _ = _; rw [set_heap hd7]; rfl
      have HBt := Lib.hid ((But.refl D w7).setCell 1 (.slice (some ⟨g7, 0, none⟩) (n + 1) c7))
      have HC7 : Hid (n + 1 ≤ c7) := by
        obtain ⟨_, ⟨hv, _⟩ | ⟨g', cap, cur, hv, _, _, hle, _⟩⟩ := ho7
        · cases hv
        · injection hv with _ _ e3
          subst e3
          rw [List.length_append, List.length_singleton, HN.out] at hle
          exact hle
      have HSe := Lib.hid (settle_any HH8.out (fun _ => ⟨g7, rfl⟩) HC7.out HLL.out)
      clear hd7 ho7 hb7 hc7 hD6
      go_wp2_with fail
      refine HSe.out.mono ?_
      rintro e w9 ⟨rfl, hd9, hb9⟩
      have HB9 := Lib.hid (HBt.out.trans hb9)
      have HR9 := Lib.hid (HR7.out.but HD7.out HB9.out)
      have HD9 := Lib.hid hd9
      have HBf := Lib.hid (HB7.out.trans (HB9.out.below hD HS7.out))
      clear hd9 hb9
      go_wp2_with fail
      refine bodyPost_ret (v := .int .i64 0) (by simp [results, Tryz.results144, go_sem]) rfl ⟨⟨rfl, fun _ => ?_⟩, HBf.out⟩
      have := HR9.out.left HD9.out
      rw [List.map_append] at this
      exact this)
end Go.Proofs.YtlappkflnlbfcaaGreatDoor.Stk
end

section
/- A draft is made of a stack, walked. -/
namespace Go.Proofs.YtlappkflnlbfcaaGreatDoor.Stk
open Go.RowKit Row9
set_option maxRecDepth 100000
set_option maxHeartbeats 2000000
set_option linter.unusedVariables false
/-- What is open, its ends laid anew so far. -/
structure Anew (w0 w : World) (B : Nat) (vv cv : Value) (l l' : List CtV) (k : Nat) : Prop where
  len : l'.length = l.length
  fst : l'.map (·.1) = l.map (·.1)
  cO : Own elP w B cv l'
  new : ∀ j p, j < k → l'[j]? = some p → EndOk w B vv p
  old : ∀ j, k ≤ j → l'[j]? = l[j]?
theorem flat_end (l : List CtV) (k : Nat) (p : CtV) (v : Value) (h : l[k]? = some p) : (l.flatMap elP.enc).set (k * 4 + 1) v = (l.set k (p.1, v)).flatMap elP.enc := by
  induction l generalizing k with
  | nil => cases h
  | cons x l ih =>
    cases k with
    | zero =>
      obtain rfl : x = p := by simpa using h
      rfl
    | succ k =>
      rw [List.getElem?_cons_succ] at h
      rw [List.set_cons_succ, List.flatMap_cons, List.flatMap_cons, List.set_append_right _ _ (by show 4 ≤ _; omega), show (k + 1) * 4 + 1 - (elP.enc x).length = k * 4 + 1 from by show (k + 1) * 4 + 1 - 4 = _; omega, ih k h]
theorem own_end {w : World} {B g n c k : Nat} {l : List CtV} {p : CtV} {v : Value} (h : Own elP w B (.slice (some ⟨g, 0, none⟩) n c) l) (hk : l[k]? = some p) : Own elP (w.setCell ⟨g, k * 4 + 1, none⟩ v) B (.slice (some ⟨g, 0, none⟩) n c) (l.set k (p.1, v)) := by
  have hkl := (List.getElem?_eq_some_iff.1 hk).1
  have := own_set (v := v) (i := k * 4 + 1) h (by show _ < l.length * 4; omega)
  rw [flat_end l k p v hk] at this
  have e : (l.set k (p.1, v)).length = l.length := by simp
  unfold Row9.Own
  rw [e]
  exact this
theorem fst_set (l : List CtV) (k : Nat) (p : CtV) (v : Value) (h : l[k]? = some p) : (l.set k (p.1, v)).map (·.1) = l.map (·.1) := by
  rw [List.map_set]
  apply List.ext_getElem?
  intro i
  rw [List.getElem?_set]
  split
  · rename_i e
    subst e
    rw [List.getElem?_map, h]
    have hkl := (List.getElem?_eq_some_iff.1 h).1
    simp [hkl]
  · rfl
/-- One end more. -/
theorem Anew.step {w0 w w' : World} {B g n c k : Nat} {vv : Value} {l l' : List CtV} {p : CtV} {v : Value} (h : Anew w0 w B vv (.slice (some ⟨g, 0, none⟩) n c) l l' k) (hk : l'[k]? = some p) (hw : Below w.heap.size w w') (he : EndOk w' B vv (p.1, v)) :
    Anew w0 (w'.setCell ⟨g, k * 4 + 1, none⟩ v) B vv (.slice (some ⟨g, 0, none⟩) n c) l (l'.set k (p.1, v)) (k + 1) := by
  have hkl := (List.getElem?_eq_some_iff.1 hk).1
  have hO := own_keep h.cO hw
  have key : ∀ {s n' : Nat} {u : Value} {xs : List Value}, w'.ownsRow B 5 s u n' xs → (w'.setCell ⟨g, k * 4 + 1, none⟩ v).ownsRow B 5 s u n' xs := fun hh =>
    own_stay hh fun i hi => chg_set _ g (k * 4 + 1) _ i (World.ownsRow.lt hh i hi).2 (own_ne hh hO (by decide) hi)
  refine ⟨by rw [List.length_set]; exact h.len, (fst_set l' k p v hk).trans h.fst, own_end hO hk, fun j q hj hq => ?_, fun j hj => ?_⟩
  · rw [List.getElem?_set] at hq
    split at hq
    · rename_i e
      subst e
      obtain rfl := Option.some.inj hq
      exact ⟨key he.1, he.2⟩
    · have := (h.new j q (by omega) hq).keep hw
      exact ⟨key this.1, this.2⟩
  · rw [List.getElem?_set, if_neg (by omega)]
    exact h.old j (by omega)
theorem Anew.far {w0 w w' : World} {B : Nat} {vv cv : Value} {l l' : List CtV} {k : Nat} (h : Anew w0 w B vv cv l l' k) (hb : Below w.heap.size w w') : Anew w0 w' B vv cv l l' k :=
  ⟨h.len, h.fst, own_keep h.cO hb, fun j p hj hp => (h.new j p hj hp).keep hb, h.old⟩
theorem box2_keep {w w5 : World} {x y : Value} {t : TypeId} (h : Below (w.alloc (.cells #[x, y] t)).heap.size (w.alloc (.cells #[x, y] t)) w5) : w5.cell? ⟨w.heap.size, 0, none⟩ = some x ∧ w5.cell? ⟨w.heap.size, 1, none⟩ = some y := by
  have hl : w.heap.size < (w.alloc (.cells #[x, y] t)).heap.size := by rw [size_new]; omega
  exact ⟨(h.cell (p := ⟨w.heap.size, 0, none⟩) hl).trans (cells_at (heap_new w _) 0).1, (h.cell (p := ⟨w.heap.size, 1, none⟩) hl).trans (cells_at (heap_new w _) 1).1⟩
def MadeD (w : World) (s : List Int) (l : List CtV) (e : Ending) (w' : World) : Prop := ∃ D vv cv l', e = .returned (.pointer (some ⟨D, 0, none⟩)) ∧ Dr w' w.heap.size D vv cv s l' ∧ l'.map (·.1) = l.map (·.1) ∧ Below w.heap.size w w'
theorem drafted_any {a c : Value} {vals : List Int} {l : List CtV} {w : World} (ha : Row elB w a vals) (hc : Row elP w c l) (hht : ∀ p ∈ l, 0 ≤ p.1.ht) (hvl : vals.length ≤ 1000000) (hll : l.length ≤ 1000000) (hel : ∀ p ∈ l, p.1.fin.length ≤ 1000000) :
    Calls Tryz.prog 113 #[.agg #[a, c]] w (MadeD w vals l) := by
  obtain ⟨B, hB⟩ : ∃ B, w.heap.size = B := ⟨_, rfl⟩
  have HBw := Lib.hid hB
  have HA := Lib.hid (fun W (hW : Below w.heap.size w W) => clone_any (ha.keep hW) hvl)
  have HC := Lib.hid (fun W (hW : Below w.heap.size w W) => clonec_any (hc.keep hW) hll)
  have HE := Lib.hid (fun (p : CtV) (hp : p ∈ l) W (hW : Below w.heap.size w W) => clone_any ((hc.2 p hp).1.keep hW) (hel p hp))
  have HEo := Lib.hid (fun (p : CtV) (hp : p ∈ l) => (hc.2 p hp).1.form)
  have HER := Lib.hid (fun (p : CtV) (hp : p ∈ l) => (⟨(hc.2 p hp).1.2, (hc.2 p hp).2.1, (hc.2 p hp).2.2, hht p hp⟩ : (∀ x ∈ p.1.fin, 0 ≤ x ∧ x < 256) ∧ w64 p.1.op ∧ w64 p.1.ht ∧ 0 ≤ p.1.ht))
  have HVR := Lib.hid ha.2
  have HW := Lib.hid (below_new w (.cells #[a, c] 39))
  obtain ⟨Pa, ca, rfl, _⟩ := ha.form
  obtain ⟨Pc, cc_, rfl, _⟩ := hc.form
  obtain ⟨nv, hnv⟩ : ∃ n, vals.length = n := ⟨_, rfl⟩
  obtain ⟨n, hn⟩ : ∃ n, l.length = n := ⟨_, rfl⟩
  rw [hnv] at HA HW ⊢
  rw [hn] at HC HW hll ⊢
  have HNV := Lib.hid hnv
  have HN := Lib.hid hn
  clear ha hc hht hvl hel hnv hn hB
  go_enter Tryz.func113, Tryz.ntmps113
  go_wp2_with fail
  go_region_law (first
    | (go_simp; go_at_call 44; refine (HA.out _ HW.out.drew).mono ?_; rintro en w5 ⟨⟨vA, rfl, hoA⟩, hbA⟩; obtain ⟨PA, cA, hvA⟩ := hoA.form; rw [HNV.out] at hvA; subst hvA; have HOA := Lib.hid hoA; have HBA := Lib.hid (HW.out.drew.trans (hbA.mono HW.out.drew.size)); obtain ⟨t0, t1⟩ := box2_keep ((below_drew1 _).trans hbA); clear hoA hbA)
    | (go_simp; go_at_call 145; refine (HC.out w5 HBA.out).mono ?_; rintro en w9 ⟨⟨vC, rfl, hoC⟩, hbC⟩; obtain ⟨PC, cC, hvC⟩ := hoC.form; rw [HN.out] at hvC; subst hvC; have HOC := Lib.hid (own_low hoC HBA.out.size); have HOA9 := Lib.hid (own_low (own_keep HOA.out hbC) (show w.heap.size ≤ _ from HW.out.drew.size)); have HB9 := Lib.hid (HBA.out.trans (hbC.mono HBA.out.size)); clear hoC hbC)
    | (go_simp; go_at_call 145; refine (HC.out _ HW.out.drew).mono ?_; rintro en w6 ⟨⟨vC, rfl, hoC⟩, hbC⟩; obtain ⟨PC, cC, hvC⟩ := hoC.form; rw [HN.out] at hvC; subst hvC; have HOC6 := Lib.hid hoC; have HBC := Lib.hid (HW.out.drew.trans (hbC.mono HW.out.drew.size)); obtain ⟨t0, t1⟩ := box2_keep ((below_drew1 _).trans hbC); clear hoC hbC)
    | (go_simp; go_at_call 44; refine (HA.out w6 HBC.out).mono ?_; rintro en w9 ⟨⟨vA, rfl, hoA⟩, hbA⟩; obtain ⟨PA, cA, hvA⟩ := hoA.form; rw [HNV.out] at hvA; subst hvA; have HOA9 := Lib.hid (own_low hoA HBC.out.size); have HOC := Lib.hid (own_low (own_keep HOC6.out hbA) (show w.heap.size ≤ _ from HW.out.drew.size)); have HB9 := Lib.hid (HBC.out.trans (hbA.mono HBC.out.size)); clear hoA hbA))
  all_goals (
    have HBn := Lib.hid (HB9.out.trans ((below_new w9 (drCells (.slice PA nv cA) (.slice PC n cC) (.pointer none))).mono HB9.out.size))
    have HDn := Lib.hid (heap_new w9 (drCells (.slice PA nv cA) (.slice PC n cC) (.pointer none)))
    have HOn := Lib.hid (own_keep HOA9.out (below_new w9 (drCells (.slice PA nv cA) (.slice PC n cC) (.pointer none))))
    have HCn := Lib.hid (own_keep HOC.out (below_new w9 (drCells (.slice PA nv cA) (.slice PC n cC) (.pointer none))))
    have HSn := Lib.hid HB9.out.size
    unfold drCells at HBn HDn HOn HCn
    obtain ⟨D, hD⟩ : ∃ D, w9.heap.size = D := ⟨_, rfl⟩
    rw [hD] at HDn HSn ⊢
    obtain ⟨c0, c1, c2, f0, f1, f2⟩ := dr_cells HDn.out
    clear hD t0 t1
    go_wp2_with fail
    generalize w9.alloc _ = w10 at *
    have HPOS : Hid (0 < n → ∃ g, PC = some ⟨g, 0, none⟩) := fun h0 => by
      obtain ⟨g, c, hv, _⟩ := own_pos (T := elP) HCn.out (by intro e; have := HN.out; rw [e] at this; simp at this; omega)
      injection hv with e1
      exact ⟨g, e1⟩
    have HCAP : Hid (n ≤ cC) := by
      obtain ⟨_, ⟨hv, h0⟩ | ⟨g', cap, cur, hv, _, _, hle, _⟩⟩ := HCn.out
      · rw [HN.out] at h0
        show _ ≤ _
        omega
      · injection hv with _ _ e3
        subst e3
        rw [HN.out] at hle
        exact hle
    clear c0 c1 c2 f0 f1 f2
    go_loopw [20] (fun k' wr => ∃ (k : Nat) (l' : List CtV), k' = .int .i64 (k : Int) ∧ k ≤ n ∧ Below w.heap.size w wr ∧ wr.heap[D]? = some (drCells (.slice PA nv cA) (.slice PC n cC) (.pointer none)) ∧ Own elB wr w.heap.size (.slice PA nv cA) vals ∧ Anew w wr w.heap.size (.slice PA nv cA) (.slice PC n cC) l l' k) (fun k' _ => n - (intOf k').toNat)
    case atStart => exact ⟨0, l, by go_num, Nat.zero_le _, HBn.out, HDn.out, HOn.out, ⟨rfl, rfl, HCn.out, fun j p hj => absurd hj (by omega), fun j _ => rfl⟩⟩
    case round =>
      obtain ⟨k, l', rfl, hk, hb, hd, ho, hA⟩ := hrel
      have HB := Lib.hid hb
      have HD := Lib.hid hd
      have HO := Lib.hid ho
      have HAn := Lib.hid hA
      have HSr := Lib.hid (lt_of_heap hd)
      clear hb hd ho hA
      by_cases hlt : k < n
      · obtain ⟨g, rfl⟩ := HPOS.out (by omega)
        obtain ⟨p, hp⟩ : ∃ p, l[k]? = some p := ⟨_, List.getElem?_eq_getElem (by rw [HN.out]; exact hlt)⟩
        have hp' : l'[k]? = some p := (HAn.out.old k (Nat.le_refl k)).trans hp
        have HP := Lib.hid hp'
        have hpm := List.mem_of_getElem? hp
        obtain ⟨Pe, ce, hpe, _⟩ := HEo.out p hpm
        obtain ⟨ne, hne⟩ : ∃ ne, p.1.fin.length = ne := ⟨_, rfl⟩
        rw [hne] at hpe
        have HNE := Lib.hid hne
        have HCl := Lib.hid (HE.out p hpm wr.drew (HB.out.trans ((below_drew1 wr).mono HB.out.size)))
        have HRg := Lib.hid (HER.out p hpm)
        rw [hpe] at HCl
        have hcell : wr.cell? ⟨g, k * 4 + 1, none⟩ = some (.slice Pe ne ce) := by
          have e := World.ownsRow.cells HAn.out.cO (g := g) rfl (k * 4 + 1) (.slice Pe ne ce) (by
            rw [show k * 4 + 1 = k * elP.s + 1 from rfl, flat_get elP l' k 1 p hp' (by decide), ← hpe]
            rfl)
          rw [add_plain, Nat.zero_add] at e
          exact e
        have HG := Lib.hid ((World.ownsRow.lt HAn.out.cO g rfl).2)
        have HAr := Lib.hid (HAn.out.far (below_drew1 wr))
        have i1 : (0 : Int) ≤ (k : Int) := by omega
        have i2 : (k : Int) < (n : Int) := by omega
        have hw1 : IntKind.i64.wrap ((k : Int) + 1) = (k : Int) + 1 := IntWalk.i64_in _ (by omega)
        obtain ⟨c0, c1, c2, f0, f1, f2⟩ := dr_cells HD.out
        clear hp hp' hpm hpe hne
        go_wp2_with fail
        go_region_law (go_simp; go_at_call 44; refine (HCl.out).mono ?_; rintro en w6 ⟨⟨vE, rfl, hoE⟩, hbE⟩; obtain ⟨PE, cE, hvE⟩ := hoE.form; rw [HNE.out] at hvE; subst hvE; have HOE := Lib.hid hoE; have HBE := Lib.hid ((below_drew1 wr).trans hbE); have HBE0 := Lib.hid hbE; obtain ⟨r0, r1, r2, s0, s1, s2⟩ := dr_cells ((((below_drew1 wr).trans hbE).block D HSr.out).trans HD.out); have fg := own_frozen (T := elP) (HAn.out.far ((below_drew1 wr).trans hbE)).cO (k * 4 + 1); have hg6 := ((((below_drew1 wr).trans hbE).cell (p := ⟨g, k * 4 + 1, none⟩) HG.out).trans hcell); clear hoE hbE)
        all_goals (
          have HEok : Hid (EndOk w6 w.heap.size (.slice PA nv cA) (p.1, .slice PE ne cE)) :=
            ⟨own_low HOE.out (Nat.le_trans HB.out.size (Nat.le_refl _)), (fun i hi e => by
              have h1 := (World.ownsRow.lt HOE.out i hi).1
              have h2 := (World.ownsRow.lt HO.out i e.symm).2
              have h3 : wr.drew.heap.size = wr.heap.size := rfl
              omega), HRg.out⟩
          have HCO := Lib.hid (own_keep HAn.out.cO HBE.out)
          have HO6 := Lib.hid (own_keep HO.out HBE.out)
          have HD6 := Lib.hid ((HBE.out.block D HSr.out).trans HD.out)
          have HB6 := Lib.hid (HB.out.trans (HBE.out.mono HB.out.size))
          have HGB := Lib.hid ((World.ownsRow.lt HAn.out.cO g rfl).1)
          clear c0 c1 c2 f0 f1 f2 r0 r1 r2 s0 s1 s2 hcell hg6 fg
          go_wp2_with fail
          go_roundw
          case rel =>
            refine ⟨k + 1, l'.set k (p.1, .slice PE ne cE), by go_num, hlt, HB6.out.setCell (p := ⟨g, k * 4 + 1, none⟩) HGB.out _, ?_, ?_, HAn.out.step HP.out HBE.out HEok.out⟩
            · rw [chg_set _ g (k * 4 + 1) _ D (lt_of_heap HD6.out) (by intro e; exact own_notD HCO.out HD6.out (by decide) (k := g) rfl (Option.some.inj e).symm)]
              exact HD6.out
            · exact own_stay HO6.out fun i hi => chg_set _ g (k * 4 + 1) _ i (World.ownsRow.lt HO6.out i hi).2 (own_ne HO6.out HCO.out (by decide) hi)
          case measure => simp [intOf]; omega)
      · obtain rfl : k = n := by omega
        have HSe := Lib.hid (settle_any HD.out (fun h => HPOS.out h) HCAP.out hll)
        have HDB : Hid (w.heap.size ≤ D) := HSn.out
        go_wp2_with fail
        refine HSe.out.mono ?_
        rintro e w8 ⟨rfl, hd8, hb8⟩
        have HRw := Lib.hid (Rw.but (⟨HO.out, HVR.out, HAn.out.cO, fun p hp => by
          obtain ⟨j, hj⟩ := List.getElem?_of_mem hp
          have hjl := (List.getElem?_eq_some_iff.1 hj).1
          rw [HAn.out.len, HN.out] at hjl
          exact HAn.out.new j p hjl hj⟩ : Rw wr w.heap.size _ _ vals l') HD.out hb8)
        have HB8 := Lib.hid (HB.out.trans (hb8.below HDB.out HSr.out))
        have HD8 := Lib.hid hd8
        have HF := Lib.hid HAn.out.fst
        clear hd8 hb8
        go_wp2_with fail
        exact bodyPost_ret (v := .pointer (some ⟨D, 0, none⟩)) (by simp [results, Tryz.results113, go_sem]) rfl ⟨D, _, _, l', rfl, ⟨HDB.out, HD8.out, HRw.out.vO, HRw.out.vR, HRw.out.cO, HRw.out.ok⟩, HF.out, HB8.out⟩)
end Go.Proofs.YtlappkflnlbfcaaGreatDoor.Stk
end

section
/- May a stack be? By the program: walked. -/
namespace Go.Proofs.YtlappkflnlbfcaaGreatDoor.Stk
open Go.RowKit Row9
set_option maxRecDepth 100000
set_option maxHeartbeats 2000000
set_option linter.unusedVariables false
theorem sgo_cons_no {h : Int} {c : Ctl} {r : List Ctl} (hm : mayE c.fin = false) : sgo h (c :: r) = none := by
  rw [sgo, hm]
  rfl
theorem sgo_cons_low {h : Int} {c : Ctl} {r : List Ctl} (hl : c.ht < h) : sgo h (c :: r) = none := by
  rw [sgo, decide_eq_false (by omega), Bool.and_false]
  rfl
theorem sgo_cons_yes {h : Int} {c : Ctl} {r : List Ctl} (hm : mayE c.fin = true) (hl : ¬ c.ht < h) : sgo h (c :: r) = sgo c.ht r := by
  rw [sgo, hm, decide_eq_true (by omega)]
  rfl
theorem drop_cons {l : List CtV} {k : Nat} {p : CtV} (h : l[k]? = some p) : (l.map (·.1)).drop k = p.1 :: (l.map (·.1)).drop (k + 1) := by
  have hk := (List.getElem?_eq_some_iff.1 h).1
  have e : (l.map (·.1))[k]? = some p.1 := by rw [List.getElem?_map, h]; rfl
  obtain ⟨h1, h2⟩ := List.getElem?_eq_some_iff.1 e
  rw [List.drop_eq_getElem_cons h1, h2]
theorem sane_none {s : Stk} (h : sgo 0 s.cs = none) : sane s = false := by unfold sane; rw [h]
theorem sane_some {s : Stk} {h : Int} (e : sgo 0 s.cs = some h) : sane s = (decide (h ≤ s.vals.length) && !(s.vals.any noT)) := by unfold sane; rw [e]
theorem sane_any {a c : Value} {vals : List Int} {l : List CtV} {w : World} (ha : Row elB w a vals) (hc : Row elP w c l) :
    Calls Tryz.prog 26 #[.agg #[a, c]] w fun e w' => e = .returned (.bool (sane ⟨vals, l.map (·.1)⟩)) ∧ Below w.heap.size w w' := by
  have HA := Lib.hid ha
  have HC := Lib.hid hc
  have HW := Lib.hid (below_new w (.cells #[a, c] 39))
  have HS := Lib.hid (size_new w (.cells #[a, c] 39))
  obtain ⟨Pa, ca, rfl, ha2, ha3⟩ := ha.form
  obtain ⟨Pc, cc_, rfl, hc2, hc3⟩ := hc.form
  obtain ⟨nv, hnv⟩ : ∃ n, vals.length = n := ⟨_, rfl⟩
  obtain ⟨n, hn⟩ : ∃ n, l.length = n := ⟨_, rfl⟩
  have hbig : n ≤ 9223372036854775807 := by omega
  rw [hnv] at HA HW HS ⊢
  rw [hn] at HC HW HS ⊢
  have HNV := Lib.hid hnv
  have HN := Lib.hid hn
  obtain ⟨R, hR⟩ : ∃ R, sane ⟨vals, l.map (·.1)⟩ = R := ⟨_, rfl⟩
  rw [hR]
  have HR := Lib.hid hR
  clear ha hc ha2 ha3 hc2 hc3 hnv hn hR
  go_enter Tryz.func26, Tryz.ntmps26
  go_wp2_with fail
  go_loopw [3, 9] (fun h' k' wr => ∃ (k : Nat) (h : Int), h' = .int .i64 h ∧ k' = .int .i64 (k : Int) ∧ k ≤ n ∧ Below (w.alloc (.cells #[.slice Pa nv ca, .slice Pc n cc_] 39)).heap.size (w.alloc (.cells #[.slice Pa nv ca, .slice Pc n cc_] 39)) wr ∧ sgo 0 (l.map (·.1)) = sgo h ((l.map (·.1)).drop k)) (fun _ k' _ => n - (intOf k').toNat)
  case atStart => exact ⟨0, 0, rfl, by go_num, Nat.zero_le _, Below.refl _ _, rfl⟩
  case round =>
    obtain ⟨k, h, rfl, rfl, hk, hb, hs⟩ := hrel
    have HB := Lib.hid hb
    have HB0 := Lib.hid (HW.out.trans (hb.mono HW.out.size))
    have HSG := Lib.hid hs
    have HA2 := Lib.hid (HA.out.keep HB0.out)
    obtain ⟨t0, t1⟩ := box2_keep hb
    clear hs hb
    by_cases hlt : k < n
    · obtain ⟨p, hp⟩ : ∃ p, l[k]? = some p := ⟨_, List.getElem?_eq_getElem (by rw [HN.out]; exact hlt)⟩
      obtain ⟨g, off, rfl, hg, k0, k1, k2, k3, hO⟩ := ctl_at (HC.out.keep HB0.out) hp
      have hD := drop_cons hp
      rw [hD] at HSG
      obtain ⟨Pe, ce, hpe, he2, he3⟩ := hO.1.form
      obtain ⟨ne, hne⟩ : ∃ ne, p.1.fin.length = ne := ⟨_, rfl⟩
      rw [hne] at hpe
      have HM := Lib.hid (fun W (hW : Below wr.heap.size wr W) => mayend_any (hO.1.keep hW))
      rw [hpe] at k1 HM
      have i1 : (0 : Int) ≤ (k : Int) := by omega
      have i2 : (k : Int) < (n : Int) := by omega
      have hw1 : IntKind.i64.wrap ((k : Int) + 1) = (k : Int) + 1 := IntWalk.i64_in _ (by omega)
      obtain ⟨op, hop⟩ : ∃ op, p.1.op = op := ⟨_, rfl⟩
      obtain ⟨ht, hht⟩ : ∃ ht, p.1.ht = ht := ⟨_, rfl⟩
      obtain ⟨dd, hdd⟩ : ∃ dd, p.1.dead = dd := ⟨_, rfl⟩
      rw [hop] at k0
      rw [hht] at k2
      rw [hdd] at k3
      obtain ⟨qq, hqq⟩ : ∃ qq, off + k * 4 = qq := ⟨_, rfl⟩
      rw [hqq] at k0 k1 k2 k3
      have HBn := Lib.hid (below_new wr (.cells #[.int .i64 op, .slice Pe ne ce, .int .i64 ht, .bool dd] 72))
      have HHT := Lib.hid hht
      clear hp hD hO hpe he2 he3 hne hop hht hdd hg
      cases hm : mayE p.1.fin with
      | false =>
        have HQ : Hid (false = R) := by show _ = _; rw [← HR.out]; exact (sane_none (HSG.out.trans (sgo_cons_no hm))).symm
        rw [hm] at HM
        clear hm
        go_wp2_with fail
        refine (HM.out _ HBn.out).mono ?_
        rintro e w1 ⟨rfl, rfl⟩
        go_wp2_with fail
        exact bodyPost_ret (v := .bool false) (by simp [results, Tryz.results26, go_sem]) rfl ⟨by rw [HQ.out], HB0.out.trans (HBn.out.mono HB0.out.size)⟩
      | true =>
        rw [hm] at HM
        by_cases hlo : ht < h
        · have HQ : Hid (false = R) := by show _ = _; rw [← HR.out]; exact (sane_none (HSG.out.trans (sgo_cons_low (by rw [HHT.out]; exact hlo)))).symm
          have t5 : decide (ht < h) = true := decide_eq_true hlo
          clear hm hlo
          go_wp2_with fail
          refine (HM.out _ HBn.out).mono ?_
          rintro e w1 ⟨rfl, rfl⟩
          go_wp2_with fail
          exact bodyPost_ret (v := .bool false) (by simp [results, Tryz.results26, go_sem]) rfl ⟨by rw [HQ.out], HB0.out.trans (HBn.out.mono HB0.out.size)⟩
        · have HQ : Hid (sgo 0 (l.map (·.1)) = sgo ht ((l.map (·.1)).drop (k + 1))) := by show _ = _; rw [HSG.out, sgo_cons_yes hm (by rw [HHT.out]; exact hlo), HHT.out]
          have t5 : decide (ht < h) = false := decide_eq_false hlo
          clear hm hlo
          go_wp2_with fail
          refine (HM.out _ HBn.out).mono ?_
          rintro e w1 ⟨rfl, rfl⟩
          go_wp2_with fail
          go_roundw
          case rel => exact ⟨k + 1, ht, rfl, by go_num, hlt, HB.out.trans (HBn.out.mono HB.out.size), HQ.out⟩
          case measure => simp [intOf]; omega
    · obtain rfl : k = n := by omega
      have hse : sgo 0 (l.map (·.1)) = some h := by
        rw [HSG.out, List.drop_of_length_le (by rw [List.length_map, HN.out]; exact Nat.le_refl _)]
        rfl
      have hsx : sane ⟨vals, l.map (·.1)⟩ = (decide (h ≤ (vals.length : Int)) && !(vals.any noT)) := sane_some hse
      rw [HR.out, HNV.out] at hsx
      have HCo := Lib.hid (con_any HA2.out)
      have HSX := Lib.hid hsx
      clear hse hsx HA
      by_cases hle : h ≤ (nv : Int)
      · have t5 : decide (h ≤ (nv : Int)) = true := decide_eq_true hle
        have HQ : Hid (R = !(vals.any noT)) := by show _ = _; rw [HSX.out, t5, Bool.true_and]
        clear hle
        generalize vals.any noT = q at HCo HQ
        go_wp2_with fail
        refine HCo.out.mono ?_
        rintro e w1 ⟨rfl, rfl⟩
        go_wp2_with fail
        exact bodyPost_ret (v := .bool (!q)) (by simp [results, Tryz.results26, go_sem]) rfl ⟨by rw [HQ.out], HB0.out⟩
      · have t5 : decide (h ≤ (nv : Int)) = false := decide_eq_false hle
        have HQ : Hid (R = false) := by show _ = _; rw [HSX.out, t5, Bool.false_and]
        clear hle
        go_wp2_with fail
        exact bodyPost_ret (v := .bool false) (by simp [results, Tryz.results26, go_sem]) rfl ⟨by rw [HQ.out], HB0.out⟩
theorem sgo_le : ∀ (cs : List Ctl) (h h' : Int), sgo h cs = some h' → h ≤ h' ∧ (∀ c ∈ cs, h ≤ c.ht ∧ c.ht ≤ h' ∧ mayE c.fin = true) ∧ (∀ c, cs.getLast? = some c → c.ht = h')
  | [], h, h', e => by
    obtain rfl : h = h' := Option.some.inj e
    exact ⟨Int.le_refl _, (fun c hc => by cases hc), (fun c hc => by cases hc)⟩
  | c :: r, h, h', e => by
    rw [sgo] at e
    split at e
    · rename_i hc
      simp only [Bool.and_eq_true, decide_eq_true_eq] at hc
      obtain ⟨h1, h2, h3⟩ := sgo_le r c.ht h' e
      refine ⟨by omega, fun x hx => ?_, fun x hx => ?_⟩
      · rcases List.mem_cons.1 hx with rfl | hx
        · exact ⟨hc.2, h1, hc.1⟩
        · have := h2 x hx
          exact ⟨by omega, this.2⟩
      · cases r with
        | nil =>
          obtain rfl : c = x := by simpa using hx
          exact Option.some.inj e
        | cons y r =>
          rw [List.getLast?_cons_cons] at hx
          exact h3 x hx
    · cases e
theorem sane_facts {s : Stk} (h : sane s = true) : (∀ c ∈ s.cs, 0 ≤ c.ht ∧ c.ht ≤ s.vals.length ∧ mayE c.fin = true) ∧ s.vals.any noT = false := by
  unfold sane at h
  split at h
  · cases h
  · rename_i h' e
    simp only [Bool.and_eq_true, decide_eq_true_eq, Bool.not_eq_true'] at h
    obtain ⟨h1, h2, h3⟩ := sgo_le _ _ _ e
    exact ⟨fun c hc => by have := h2 c hc; exact ⟨by omega, by omega, this.2.2⟩, h.2⟩
theorem mayE_len {l : List Int} (h : mayE l = true) : l.length ≤ 1 := by
  match l, h with
  | [], _ => simp
  | [x], _ => simp
  | x :: y :: r, h => cases h
end Go.Proofs.YtlappkflnlbfcaaGreatDoor.Stk
end
