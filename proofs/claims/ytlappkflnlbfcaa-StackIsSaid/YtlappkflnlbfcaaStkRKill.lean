/- The document's Kill, walked. -/
import Derived.Test.YtlappkflnlbfcaaStkRPush
namespace Go.Proofs.Ytlappkflnlbfcaa.Stk
open Go.RowKit Row9
set_option maxRecDepth 100000
set_option maxHeartbeats 2000000
set_option linter.unusedVariables false
theorem kill_notsane {s : Stk} (h : sane s = false) : killS s = (none_, 1) := by unfold killS; rw [if_pos h]
theorem run_idxD (g off k n c : Nat) (W : World) (h1 : (0 : Int) ≤ (k : Int)) (h2 : (k : Int) < (n : Int)) : (Instr.indexAt 23 (.slice (some ⟨g, off, none⟩) n c) (.int .i64 (k : Int))).run Try.prog W = .ok (.pointer (some ⟨g, off + k * 4, none⟩)) W := by go_simp
theorem EO.of_own {α : Type} {T : El α} {w : World} {B : Nat} {v : Value} {l : List α} (h : Own T w B v l) : EO T w B v l := .inr h
theorem EO.take {α : Type} {T : El α} {w : World} {B n c : Nat} {P : Option Addr} {l : List α} (h : EO T w B (.slice P n c) l) (k : Nat) (hk : k ≤ n) : EO T w B (.slice P k c) (l.take k) := by
  rcases h with ⟨a, e, rfl⟩ | h
  · injection e with e1 e2 e3
    subst e1 e2 e3
    obtain rfl : k = 0 := by omega
    exact .inl ⟨a, rfl, rfl⟩
  · obtain ⟨P', c', e⟩ := Own.form h
    injection e with _ e2 _
    exact .inr (Own.take h k (by omega))
theorem rowB_bool {W : World} {y i : Nat} {u v : Value} {l : List Int} {dd : Bool} (h : Row elB W v l) (hy : W.cell? ⟨y, i, none⟩ = some (.bool dd)) : Row elB (W.setCell ⟨y, i, none⟩ u) v l := by
  obtain ⟨⟨B, d, h1, h2, h3, h4⟩, h5⟩ := h
  refine ⟨⟨B, d, h1, h2, h3, fun h0 => ?_⟩, h5⟩
  obtain ⟨g, off, e, hg, hB⟩ := h4 h0
  refine ⟨g, off, e, by rw [set_size]; exact hg, fun j p hj i' u' hu => ?_⟩
  rw [World.cell?_setCell_other _ _ _ _ (by
    intro e
    have h6 := hB j p hj i' u' hu
    rw [← e, hy] at h6
    obtain rfl := Option.some.inj h6
    rcases i' with _ | i'
    · cases hu
    · cases hu)]
  exact hB j p hj i' u' hu
theorem ctok_bool {W : World} {y i : Nat} {u : Value} {p : CtV} {dd : Bool} (h : CtOk W p) (hy : W.cell? ⟨y, i, none⟩ = some (.bool dd)) : CtOk (W.setCell ⟨y, i, none⟩ u) p := ⟨rowB_bool h.1 hy, h.2⟩
theorem flat_deadD (q : List CtV) (p : CtV) : ((q ++ [p]).flatMap elD.enc).set (q.length * 4 + 3) (.bool true) = (q ++ [deadC p]).flatMap elD.enc := by
  have hl : (q.flatMap elD.enc).length = q.length * 4 := Row9.flat_len elD q
  rw [List.flatMap_append, List.flatMap_append, List.set_append_right _ _ (by omega), hl, show q.length * 4 + 3 - q.length * 4 = 3 from by omega]
  rfl
theorem own_deadD {w : World} {B g n c m : Nat} {q : List CtV} {p : CtV} (h : Own elD w B (.slice (some ⟨g, 0, none⟩) n c) (q ++ [p])) (hm : q.length = m) : Own elD (w.setCell ⟨g, m * 4 + 3, none⟩ (.bool true)) B (.slice (some ⟨g, 0, none⟩) n c) (q ++ [deadC p]) := by
  subst hm
  have := own_set (v := .bool true) (i := q.length * 4 + 3) h (by rw [List.length_append, List.length_singleton]; show _ < (q.length + 1) * 4; omega)
  rw [flat_deadD] at this
  have e : (q ++ [deadC p]).length = (q ++ [p]).length := by rw [List.length_append, List.length_append]; rfl
  unfold Row9.Own
  rw [e]
  exact this
theorem run_fCD2 (g o : Nat) (W : World) : (Instr.fieldAt 49 (.pointer (some ⟨g, o, none⟩)) 2).run Try.prog W = .ok (.pointer (some ⟨g, o + 2, none⟩)) W := by go_simp
theorem run_uptoB (A : Option Addr) (n c k : Nat) (W : World) (h : k ≤ c) : (Instr.sliceAt 22 (.slice A n c) none (some (.int .i64 (k : Int))) none).run Try.prog W = .ok (.slice A k c) W := by
  have h1 : (0 : Int) ≤ (k : Int) := by omega
  have h2 : (k : Int) ≤ (c : Int) := by omega
  have h3 : ¬ ((c : Int) < (k : Int)) := by omega
  cases A <;> go_simp
theorem rkill_any {v : Value} {s : Stk} {w : World} (h : StIs elD w v s) (h1 : s.vals.length ≤ 400000) (h2 : s.cs.length ≤ 400000) :
    Calls Try.prog 20 #[v] w (ROp (killS s) w) := by
  obtain ⟨P, np, cp, Q, m, d, rfl⟩ := StIs.form (T := elD) h
  obtain ⟨l0, _, hrc0, hml0, hnv, hnl0, hnc⟩ := h.rows
  have HB2 := Lib.hid (below2 w (.cells #[.slice P np cp, .slice Q m d] 25) (.cells #[.slice none 0 0, .slice none 0 0] 25))
  have HV := Lib.hid (h.keep HB2.out)
  have HBX := Lib.hid (blk (heap_new w (.cells #[.slice P np cp, .slice Q m d] 25)) (below_new (w.alloc (.cells #[.slice P np cp, .slice Q m d] 25)) (.cells #[.slice none 0 0, .slice none 0 0] 25)))
  have HR := Lib.hid (heap_new (w.alloc (.cells #[.slice P np cp, .slice Q m d] 25)) (.cells #[.slice none 0 0, .slice none 0 0] 25))
  simp only [size_new] at HR
  have HL1 := Lib.hid h1
  have HL2 := Lib.hid h2
  have HNC := Lib.hid hnc
  have HRC0 := Lib.hid (hrc0.keep HB2.out)
  have HML0 := Lib.hid hml0
  obtain ⟨R, hR⟩ : ∃ R, killS s = R := ⟨_, rfl⟩
  have HRR := Lib.hid hR
  rw [hR]
  have hbig : m ≤ 400000 := by omega
  clear h h1 h2 hR hrc0 hml0 hnv hnl0 hnc
  go_enter Try.func20, Try.ntmps20
  go_wp2_with fail
  generalize (w.alloc (.cells #[.slice P np cp, .slice Q m d] 25)).alloc (.cells #[.slice none 0 0, .slice none 0 0] 25) = w2 at *
  obtain ⟨b, hb0⟩ : ∃ b, w.heap.size = b := ⟨_, rfl⟩
  obtain ⟨r, hr0⟩ : ∃ r, b + 1 = r := ⟨_, rfl⟩
  have HBR : Hid (w.heap.size ≤ r) := Lib.hid (by omega)
  rw [hb0] at HBX HR
  rw [hr0] at HR
  simp only [hb0]
  simp only [hr0]
  clear hb0 hr0
  refine (rsane_any HV.out).mono ?_
  rintro e w3 ⟨rfl, hb⟩
  have HB3 := Lib.hid (HB2.out.trans (hb.mono HB2.out.size))
  have HV3 := Lib.hid (HV.out.keep hb)
  have HRC3 := Lib.hid (HRC0.out.keep hb)
  have HBX3 := Lib.hid (blk HBX.out hb)
  have HR3 := Lib.hid (blk HR.out hb)
  clear hb HV HBX HR HB2 HRC0
  obtain ⟨q0, q1⟩ := cells2 HR3.out
  have p0 := (cells_at HR3.out 0).2
  have p1 := (cells_at HR3.out 1).2
  have hrl : r < w3.heap.size := lt_of_heap HR3.out
  cases hs : sane s with
  | false =>
    have HQ : Hid (R = (none_, 1)) := HRR.out.symm.trans (kill_notsane hs)
    go_wp2_with fail
    obtain ⟨f0, f1⟩ := cells2 (store2 HR3.out (.slice none 0 0) (.slice none 0 0))
    have HF := Lib.hid ((HB3.out.setCell (p := ⟨r, 0, none⟩) HBR.out (.slice none 0 0)).setCell (p := ⟨r, 1, none⟩) HBR.out (.slice none 0 0))
    generalize (w3.setCell ⟨r, 0, none⟩ (.slice none 0 0)).setCell ⟨r, 1, none⟩ (.slice none 0 0) = wf at *
    clear q0 q1 p0 p1
    rw [HQ.out]
    exact bodyPost_ret (v := .tuple #[.agg #[.slice none 0 0, .slice none 0 0], .int .i64 1]) (by simp [results, Try.results20, go_sem, f0, f1]) rfl ⟨⟨_, _, _, _, _, _, rfl, StIs.none_ elD wf⟩, HF.out⟩
  | true =>
    have HS := Lib.hid hs
    clear hs
    obtain ⟨x0, x1⟩ := cells2 HBX3.out
    have hbl : b < w3.heap.size := lt_of_heap HBX3.out
    rcases last_cases s.cs with hcs | ⟨q, ctl, hcs⟩
    · have hm0 : m = 0 := by
        have := HNC.out
        rw [hcs] at this
        simpa using this.symm
      subst hm0
      have HQ : Hid (R = (none_, 5)) := HRR.out.symm.trans (killS_none HS.out hcs)
      have t3 : IntKind.i64.wrap (((0 : Nat) : Int) - 1) = -1 := by decide
      go_wp2_with fail
      obtain ⟨f0, f1⟩ := cells2 (store2 HR3.out (.slice none 0 0) (.slice none 0 0))
      have HF := Lib.hid ((HB3.out.setCell (p := ⟨r, 0, none⟩) HBR.out (.slice none 0 0)).setCell (p := ⟨r, 1, none⟩) HBR.out (.slice none 0 0))
      generalize (w3.setCell ⟨r, 0, none⟩ (.slice none 0 0)).setCell ⟨r, 1, none⟩ (.slice none 0 0) = wf at *
      clear q0 q1 p0 p1 x0 x1
      rw [HQ.out]
      exact bodyPost_ret (v := .tuple #[.agg #[.slice none 0 0, .slice none 0 0], .int .i64 5]) (by simp [results, Try.results20, go_sem, f0, f1]) rfl ⟨⟨_, _, _, _, _, _, rfl, StIs.none_ elD wf⟩, HF.out⟩
    · have HQ : Hid (R = (⟨s.vals.take ctl.ht.toNat, q ++ [{ ctl with dead := true }]⟩, 0)) := HRR.out.symm.trans (killS_last HS.out hcs)
      have hm1 : m = q.length + 1 := by rw [← HNC.out, hcs]; simp
      have HHT := Lib.hid (dead_len HS.out hcs)
      have HCS := Lib.hid hcs
      obtain ⟨k, hk⟩ : ∃ k, q.length = k := ⟨_, rfl⟩
      have HK := Lib.hid hk
      have hmk : m = k + 1 := by omega
      subst hmk
      have t3 : IntKind.i64.wrap (((k + 1 : Nat) : Int) - 1) = (k : Int) := by rw [IntWalk.i64_in _ (by omega)]; omega
      have t4 : decide ((k : Int) < 0) = false := decide_eq_false (by omega)
      clear hcs hm1 hk q0 q1 p0 p1 hrl
      go_wp2_with fail
      clear x0 x1 hbl
      refine (copied_eo HV3.out HL1.out HL2.out).mono ?_
      rintro e w5 ⟨⟨P5, n5, c5, Q5, m5, d5, l, rfl, he1, he2, hml, hok, hck⟩, hb⟩
      have hcap : n5 ≤ c5 ∧ s.vals.length = n5 := by
        obtain ⟨A, c', e, hc', _⟩ := (he1.row (T := elB) hok).form
        injection e with _ e1 e2
        subst e1 e2
        exact ⟨hc', rfl⟩
      have HBn := Lib.hid (hb.trans ((below_new w5 (.cells #[.slice P5 n5 c5, .slice Q5 m5 d5] 25)).mono hb.size))
      have HB6 := Lib.hid (HB3.out.trans (HBn.out.mono HB3.out.size))
      have HE1 := Lib.hid (he1.keep (below_new w5 (.cells #[.slice P5 n5 c5, .slice Q5 m5 d5] 25)))
      have HE2 := Lib.hid (he2.keep (below_new w5 (.cells #[.slice P5 n5 c5, .slice Q5 m5 d5] 25)))
      have HO6 := Lib.hid (heap_new w5 (.cells #[.slice P5 n5 c5, .slice Q5 m5 d5] 25))
      have HR6 := Lib.hid (blk HR3.out HBn.out)
      have HBX6 := Lib.hid (blk HBX3.out HBn.out)
      have HRC6 := Lib.hid (HRC3.out.keep HBn.out)
      have HML := Lib.hid hml
      have HOK := Lib.hid hok
      have HCK := Lib.hid hck
      have HO5 : Hid (w3.heap.size ≤ w5.heap.size) := hb.size
      have HR4l : Hid (r < w3.heap.size) := lt_of_heap HR3.out
      obtain ⟨na, hna⟩ : ∃ na : Nat, ctl.ht = (na : Int) := ⟨_, HHT.out.symm⟩
      have HNA : Hid (ctl.ht.toNat = na) := Lib.hid (by rw [hna]; rfl)
      have hnal : na ≤ n5 := by
        have e := HHT.out
        rw [hna, List.length_take] at e
        omega
      obtain ⟨pp, hpp, hpc⟩ : ∃ pp, l0[k]? = some pp ∧ pp.1 = ctl := by
        have e : (l0.map (·.1))[k]? = some ctl := by rw [HML0.out, HCS.out, ← HK.out]; simp
        rw [List.getElem?_map] at e
        cases hq : l0[k]? with
        | none => rw [hq] at e; cases e
        | some pp => rw [hq] at e; exact ⟨pp, rfl, Option.some.inj e⟩
      obtain ⟨g, off, hQe, hg, k0, k1, k2, k3, hO⟩ := ctl_at HRC6.out hpp
      rw [hpc, hna] at k2
      subst hQe
      have HG := Lib.hid hg
      have HK2 := Lib.hid k2
      have i1 : (0 : Int) ≤ (k : Int) := by omega
      have i2 : (k : Int) < ((k + 1 : Nat) : Int) := by omega
      clear hb he1 he2 hml hok hck hpp hpc k0 k1 k2 k3 hO hg
      go_wp2_with fail
      generalize w5.alloc (.cells #[.slice P5 n5 c5, .slice Q5 m5 d5] 25) = w6 at *
      obtain ⟨o, ho⟩ : ∃ o, w5.heap.size = o := ⟨_, rfl⟩
      rw [ho] at HO6 HO5
      simp only [ho]
      clear ho
      refine Stab.region_tail 10 35 [.is (.pointer (some ⟨o, 0, none⟩)), .is (.slice P5 n5 c5), .is (.pointer (some ⟨b, 1, none⟩)), .is (.slice (some ⟨g, off, none⟩) (k + 1) d), .is (.int .i64 (k : Int)), .is (.pointer (some ⟨g, off + k * 4, none⟩)), .is (.pointer (some ⟨g, off + k * 4 + 2, none⟩)), .is (.int .i64 (na : Int)), .is (.slice P5 na c5), .is (.pointer (some ⟨o, 0, none⟩))] (by kernel_rfl) (by kernel_rfl) (by kernel_rfl) (by kernel_rfl) rfl rfl ?_ ?_
      · simp only [List.take_succ_cons, List.take_zero]
        with_reducible refine Stab.steps_cons ?_ ?_ ?_
        · exact Stab.owes_fieldAt rfl rfl (fun W => run_fD0 _ W) rfl
        · exact trivial
        with_reducible refine Stab.steps_cons ?_ ?_ ?_
        · exact Stab.owes_load rfl (fun v W hb hv => by subst hv; exact Stab.run_cellS _ _ _ _ _ W (cells2 (blk HO6.out hb)).1) rfl
        · exact trivial
        with_reducible refine Stab.steps_cons ?_ ?_ ?_
        · exact Stab.owes_fieldAt rfl rfl (fun W => run_fD1 _ W) rfl
        · exact trivial
        with_reducible refine Stab.steps_cons ?_ ?_ ?_
        · exact Stab.owes_load rfl (fun v W hb hv => by subst hv; exact run_cellC _ _ _ _ _ W (cells2 (blk HBX6.out hb)).2) rfl
        · exact trivial
        with_reducible refine Stab.steps_cons ?_ ?_ ?_
        · exact Stab.owes_move rfl rfl rfl
        · exact trivial
        with_reducible refine Stab.steps_cons ?_ ?_ ?_
        · exact Stab.owes_indexAt rfl rfl rfl (fun W => run_idxD _ _ _ _ _ W i1 i2) rfl
        · exact trivial
        with_reducible refine Stab.steps_cons ?_ ?_ ?_
        · exact Stab.owes_fieldAt rfl rfl (fun W => run_fCD2 _ _ W) rfl
        · exact trivial
        with_reducible refine Stab.steps_cons ?_ ?_ ?_
        · exact Stab.owes_load rfl (fun v W hb hv => by subst hv; exact Stab.run_cellI _ _ _ W ((hb.cell (p := ⟨g, off + k * 4 + 2, none⟩) HG.out).trans HK2.out)) rfl
        · exact trivial
        with_reducible refine Stab.steps_cons ?_ ?_ ?_
        · exact Stab.owes_upto rfl rfl rfl (fun W => run_uptoB _ _ _ _ W (by have := hcap.1; omega)) rfl
        · exact trivial
        with_reducible refine Stab.steps_cons ?_ ?_ ?_
        · exact Stab.owes_fieldAt rfl rfl (fun W => run_fD0 _ W) rfl
        · exact trivial
        exact Stab.steps_nil
      · simp only [List.take_succ_cons, List.take_zero, List.drop_succ_cons, List.drop_zero]
        intro w7 hb7 _
        obtain ⟨l1, l2, rfl, h1, h2⟩ := List.map_eq_append_iff.1 (HML.out.trans HCS.out)
        obtain ⟨pl, rfl, hpl⟩ : ∃ pl, l2 = [pl] ∧ pl.1 = ctl := by
          cases l2 with
          | nil => simp at h2
          | cons a t =>
            simp only [List.map_cons, List.cons.injEq, List.map_eq_nil_iff] at h2
            exact ⟨a, by rw [h2.2], h2.1⟩
        have hk1 : l1.length = k := by rw [← HK.out, ← h1, List.length_map]
        have hown : Own elD w7 w3.heap.size (.slice Q5 m5 d5) (l1 ++ [pl]) := by
          rcases HE2.out.keep hb7 with ⟨a, _, e⟩ | h
          · simp at e
          · exact h
        have hwb : Below w3.heap.size w3 w7 := HBn.out.trans (hb7.mono HBn.out.size)
        have HRow := Own.row hown (fun p hp => (HCK.out p hp).keep hwb)
        obtain ⟨_, hx⟩ := id hown
        rcases hx with ⟨hx, hx2⟩ | ⟨g5, cap, cur, hx, hB5, hc5, _⟩
        · simp at hx2
        obtain ⟨e1, e2, e3⟩ : Q5 = some ⟨g5, 0, none⟩ ∧ m5 = (l1 ++ [pl]).length ∧ d5 = cap := by
          injection hx with e1 e2 e3
          exact ⟨e1, e2, e3⟩
        have hm5 : m5 = k + 1 := by rw [e2, List.length_append, hk1]; rfl
        subst e1 e3
        subst hm5
        clear e2 hx
        obtain ⟨g5', off5, e5, _, _, _, _, z3, _⟩ := ctl_at HRow (j := k) (p := pl) (by rw [← hk1]; simp)
        obtain ⟨rfl, rfl⟩ : g5 = g5' ∧ 0 = off5 := by
          simp only [Option.some.injEq, Addr.mk.injEq, and_true] at e5
          exact e5
        rw [Nat.zero_add] at z3
        have zf := (cells_at hc5 (k * 4 + 3)).2
        have ho7 := blk HO6.out hb7
        have hr7 := blk HR6.out hb7
        have hog : o ≠ g5 := by
          intro e
          subst e
          rw [hc5] at ho7
          simp only [Option.some.injEq, Obj.cells.injEq] at ho7
          exact absurd ho7.2.1 (by decide)
        have hgo : g5 ≠ o := Ne.symm hog
        have hrg : r ≠ g5 := by have := HR4l.out; omega
        have hgr : g5 ≠ r := Ne.symm hrg
        have hro : r ≠ o := by have := HR4l.out; have := HO5.out; omega
        have hor : o ≠ r := Ne.symm hro
        have ho8 : (w7.setCell ⟨o, 0, none⟩ (.slice P5 na c5)).heap[o]? = some (.cells #[.slice P5 na c5, .slice (some ⟨g5, 0, none⟩) (k + 1) d5] 25 (0, 0)) := by
          rw [set_heap ho7]
          rfl
        have hc8 := chgT_low (o := o) (i := 0) (u := .slice P5 na c5) hc5 hgo
        have hr8 := chgT_low (o := o) (i := 0) (u := .slice P5 na c5) hr7 hro
        have hown8 : Own elD (w7.setCell ⟨o, 0, none⟩ (.slice P5 na c5)) w3.heap.size (.slice (some ⟨g5, 0, none⟩) (k + 1) d5) (l1 ++ [pl]) := own_stay hown fun k' hk' => by
          obtain rfl : g5 = k' := Option.some.inj hk'
          exact hc8.trans hc5.symm
        have hown9 := own_deadD hown8 hk1
        have hr9 := chgT_low (o := g5) (i := k * 4 + 3) (u := .bool true) hr8 hrg
        have HE11 := Lib.hid (((EO.of_own hown9).other (chgT_set (i := 0) (u := .slice P5 na c5) hr9) (by decide)).other (chgT_set (i := 1) (u := .slice (some ⟨g5, 0, none⟩) (k + 1) d5) (set_heap hr9 _)) (by decide))
        have HE12 := Lib.hid ((((((HE1.out.keep hb7).take na hnal).other (chgT_set (i := 0) (u := .slice P5 na c5) ho7) (by decide)).other (chgT_set (i := k * 4 + 3) (u := .bool true) hc8) (by decide)).other (chgT_set (i := 0) (u := .slice P5 na c5) hr9) (by decide)).other (chgT_set (i := 1) (u := .slice (some ⟨g5, 0, none⟩) (k + 1) d5) (set_heap hr9 _)) (by decide))
        have z38 : (w7.setCell ⟨o, 0, none⟩ (.slice P5 na c5)).cell? ⟨g5, k * 4 + 3, none⟩ = some (.bool pl.1.dead) := by
          rw [World.cell?_setCell_other _ _ _ _ (by intro e; exact hog (congrArg Addr.block e))]
          exact z3
        have HCK11 : Hid (∀ p ∈ l1 ++ [deadC pl], CtOk ((((w7.setCell ⟨o, 0, none⟩ (.slice P5 na c5)).setCell ⟨g5, k * 4 + 3, none⟩ (.bool true)).setCell ⟨r, 0, none⟩ (.slice P5 na c5)).setCell ⟨r, 1, none⟩ (.slice (some ⟨g5, 0, none⟩) (k + 1) d5)) p) := by
          have key : ∀ p ∈ l1 ++ [pl], CtOk ((((w7.setCell ⟨o, 0, none⟩ (.slice P5 na c5)).setCell ⟨g5, k * 4 + 3, none⟩ (.bool true)).setCell ⟨r, 0, none⟩ (.slice P5 na c5)).setCell ⟨r, 1, none⟩ (.slice (some ⟨g5, 0, none⟩) (k + 1) d5)) p := fun p hp =>
            ctok_box (ctok_box (ctok_bool (ctok_box ((HCK.out p hp).keep hwb) ho7) z38) hr9) (set_heap hr9 _)
          intro p hp
          rcases List.mem_append.1 hp with hp | hp
          · exact key p (List.mem_append_left _ hp)
          · obtain rfl := List.mem_singleton.1 hp
            exact key pl (List.mem_append_right _ (List.mem_singleton.2 rfl))
        have HMF : Hid ((l1 ++ [deadC pl]).map (·.1) = q ++ [{ ctl with dead := true }]) := by
          show _ = _
          rw [List.map_append, h1, ← hpl]
          rfl
        obtain ⟨f0, f1⟩ := cells2 (store2 hr9 (.slice P5 na c5) (.slice (some ⟨g5, 0, none⟩) (k + 1) d5))
        have HF := Lib.hid (((((HB6.out.trans (hb7.mono HB6.out.size)).setCell (p := ⟨o, 0, none⟩) (Nat.le_trans HB3.out.size HO5.out) (.slice P5 na c5)).setCell (p := ⟨g5, k * 4 + 3, none⟩) (Nat.le_trans HB3.out.size hB5) (.bool true)).setCell (p := ⟨r, 0, none⟩) HBR.out (.slice P5 na c5)).setCell (p := ⟨r, 1, none⟩) HBR.out (.slice (some ⟨g5, 0, none⟩) (k + 1) d5))
        obtain ⟨o0, o1⟩ := cells2 ho7
        have op0 := (cells_at ho7 0).2
        obtain ⟨q0, q1⟩ := cells2 hr7
        have p0 := (cells_at hr7 0).2
        have p1 := (cells_at hr7 1).2
        have hol : o < w7.heap.size := lt_of_heap ho7
        have hrl : r < w7.heap.size := lt_of_heap hr7
        have hgl : g5 < w7.heap.size := lt_of_heap hc5
        clear hown hown8 hown9 ho8 hc8 hr8 hr9 ho7 hr7 hb7 hc5 HRow hwb hk1 h1 h2 e5 z38
        simp only [Act.put, List.setIfInBounds_toArray, List.set_cons_succ, List.set_cons_zero]
        go_wp2_with fail
        generalize (((w7.setCell ⟨o, 0, none⟩ (.slice P5 na c5)).setCell ⟨g5, k * 4 + 3, none⟩ (.bool true)).setCell ⟨r, 0, none⟩ (.slice P5 na c5)).setCell ⟨r, 1, none⟩ (.slice (some ⟨g5, 0, none⟩) (k + 1) d5) = wf at *
        clear q0 q1 p0 p1 o0 o1 op0 z3 zf
        rw [HQ.out]
        exact bodyPost_ret (v := .tuple #[.agg #[.slice P5 na c5, .slice (some ⟨g5, 0, none⟩) (k + 1) d5], .int .i64 0]) (by simp [results, Try.results20, go_sem, f0, f1]) rfl ⟨⟨_, _, _, _, _, _, rfl, _, _, l1 ++ [deadC pl], rfl, (by rw [HNA.out]; exact HE12.out.row (fun p hp => HOK.out p (List.mem_of_mem_take hp))), HE11.out.row HCK11.out, HMF.out⟩, HF.out⟩
end Go.Proofs.Ytlappkflnlbfcaa.Stk
