/- ChkResF. -/
import Derived.Test.YtlappkflnlbfcaaGreatDoorPkChkResN
/- CheckResults, plain: what fits for one result fits for no other. -/
namespace Go.Proofs.YtlappkflnlbfcaaGreatDoor.Chk
open Go.RowKit Row9 Stk
set_option maxRecDepth 100000
set_option maxHeartbeats 1000000
set_option linter.unusedVariables false
/-- What is wanted and pushed again is as it was, where all is known. -/
theorem again {l : List Int} {x : Rs} {t : Stk} (hl : ∀ v ∈ l, v ≠ 0) (hx : LvR x) (ho : OkS x) (hn : ∀ u, x = .ok u → NoD u ∧ u.cs ≠ []) (h : pushR l (wantR l x) = .ok t) : x = .ok t := by
  obtain ⟨u2, h2, rfl⟩ := push_at h
  obtain ⟨u, vs, rfl, hw, rfl⟩ := want_at h2
  have hs := ho u rfl
  obtain ⟨hd, hne⟩ := hn u rfl
  rcases last_cases u.cs with hc | ⟨q, c, hc⟩
  · exact absurd hc hne
  · rw [hc, List.getLast?_concat] at hw
    have hcm : c ∈ u.cs := by rw [hc]; simp
    have h3 := want_top (c := c) (hd c hcm) l.reverse (sane_ht hs c hcm).1 (fun v hv => by
      obtain ⟨j, hj⟩ := List.getElem?_of_mem hv
      exact hx u rfl j v hj (fun d hd' he => by rw [hd d hd'] at he; cases he)) (fun v hv => hl v (List.mem_reverse.1 hv)) hw
    rw [List.reverse_reverse] at h3
    rw [← h3]
theorem ne_of_alive {R : List Int} {s : Stk} (h : Alive R s) : s.cs ≠ [] := by
  obtain ⟨r, hr⟩ := h
  rw [hr]
  simp
theorem Same2.alive {R1 R2 : List Int} {s1 s2 : Stk} (h : Same2 R1 R2 s1 s2) : Alive R1 s1 ∧ Alive R2 s2 := by
  obtain ⟨_, r, h1, h2⟩ := h
  exact ⟨⟨r, h1⟩, ⟨r, h2⟩⟩
theorem Sim.alive {R1 R2 : List Int} {s1 s2 : Stk} (h : Sim R1 R2 s1 s2) : Alive R1 s1 ∧ Alive R2 s2 := by
  rcases h with h | ⟨p, c, r1, r2, h1, h2, _⟩
  · exact h.alive
  · exact ⟨⟨_, h1⟩, ⟨_, h2⟩⟩
theorem br_same {R1 R2 : List Int} {A : Int} {s1 s2 t1 t2 : Stk} (hs : Same2 R1 R2 s1 s2) (n1 : NoD s1) (n2 : NoD s2) (k1 : sane s1 = true) (k2 : sane s2 = true) (l1 : Live s1) (l2 : Live s2) (h1 : pushR (labelL A (.ok s1)) (wantR (labelL A (.ok s1)) (wantR [127] (labelR A (.ok s1)))) = .ok t1) (h2 : pushR (labelL A (.ok s2)) (wantR (labelL A (.ok s2)) (wantR [127] (labelR A (.ok s2)))) = .ok t2) (a1 : Alive R1 t1) (a2 : Alive R2 t2) : Same2 R1 R2 t1 t2 := by
  have key : ∀ {s t : Stk}, s.cs ≠ [] → NoD s → sane s = true → Live s → pushR (labelL A (.ok s)) (wantR (labelL A (.ok s)) (wantR [127] (labelR A (.ok s)))) = .ok t → wantR [127] (.ok s) = .ok t := by
    intro s t hne hn hs hl h
    have hv : LvR (.ok s) := fun u hu => by injection hu with hu; rw [← hu]; exact hl
    have ho : OkS (.ok s) := fun u hu => by injection hu with hu; rw [← hu]; exact hs
    have h3 := again (label_nz A _) hv.label.want ho.label.want (fun u hu => by
      obtain ⟨u', vs, e, _, rfl⟩ := want_at hu
      have := label_from e
      injection this with this
      subst this
      exact ⟨hn, hne⟩) h
    obtain ⟨u', vs, e, hw, rfl⟩ := want_at h3
    have := label_from e
    rw [e] at h3
    rw [← this] at h3
    exact h3
  have j1 := key (ne_of_alive hs.alive.1) n1 k1 l1 h1
  have j2 := key (ne_of_alive hs.alive.2) n2 k2 l2 h2
  obtain ⟨u1, u2⟩ := same_up hs k1 k2
  have up : ∀ {f : List Int} {s s' : Stk}, Up [] f false s s' → UpR [] f false (.ok s) (.ok s') := fun {f s s'} h u e => ⟨s', rfl, by injection e with e; rw [← e]; exact h⟩
  obtain ⟨t', e1, e2⟩ := (up u1).want (l := [127]) t1 j1
  obtain ⟨t'', e3, e4⟩ := (up u2).want (l := [127]) t2 j2
  rw [j2] at e1
  rw [j1] at e3
  injection e1 with e1
  injection e3 with e3
  subst e1 e3
  exact up_same e2 e4 a1 a2
theorem step_sim {E : EnvP} {R1 R2 : List Int} {i : Ins.Ins} {s1 s2 t1 t2 : Stk} (h : Sim R1 R2 s1 s2) (k1 : sane s1 = true) (k2 : sane s2 = true) (l1 : Live s1) (l2 : Live s2) (h1 : takeR (withR E R1) i s1 = .ok t1) (h2 : takeR (withR E R2) i s2 = .ok t2) (a1 : Alive R1 t1) (a2 : Alive R2 t2) : Sim R1 R2 t1 t2 := by
  rcases h.cases with ⟨hs, n1, n2⟩ | ⟨p, c, r1, r2, e1, e2, hd, hsh, hv⟩
  · left
    by_cases hb : i.op < 12 ∨ 15 < i.op
    · obtain ⟨u1, u2⟩ := same_up hs k1 k2
      obtain ⟨t', e1, e2⟩ := UpR.take (E := withR E R1) (R := R2) u1 hb t1 h1
      obtain ⟨t'', e3, e4⟩ := UpR.take (E := withR E R2) (R := R1) u2 hb t2 h2
      have e1' : takeR (withR E R2) i s2 = .ok t' := e1
      have e3' : takeR (withR E R1) i s1 = .ok t'' := e3
      rw [h2] at e1'
      rw [h1] at e3'
      injection e1' with e1'
      injection e3' with e3'
      subst e1' e3'
      exact up_same e2 e4 a1 a2
    · obtain ⟨op, A, B, K, L⟩ := i
      simp only at hb
      have h4 : op = 12 ∨ op = 13 ∨ op = 14 ∨ op = 15 := by omega
      rcases h4 with rfl | rfl | rfl | rfl
      · rw [take_12] at h1 h2
        exact kill_same hs (WP.of k1).label.want (WP.of k2).label.want h1 h2 a1
      · rw [take_13] at h1 h2
        exact br_same hs n1 n2 k1 k2 l1 l2 h1 h2 a1 a2
      · rw [take_14] at h1 h2
        exact kill_same hs (WP.tab _ (WP.of k1).label).want.want (WP.tab _ (WP.of k2).label).want.want h1 h2 a1
      · rw [take_15] at h1 h2
        exact kill_same hs (WP.of k1).want (WP.of k2).want h1 h2 a1
  · have hlen : r1.length = r2.length := by
      have := congrArg List.length hsh
      simpa [shp] using this
    have g1 : KB (⟨2, R1, 0, false⟩ :: p) c (s1.vals.take c.ht.toNat) (.ok s1) := fun u hu => by
      injection hu with hu
      subst hu
      exact ⟨⟨r1, e1⟩, rfl, k1⟩
    have g2 : KB (⟨2, R2, 0, false⟩ :: p) c (s2.vals.take c.ht.toNat) (.ok s2) := fun u hu => by
      injection hu with hu
      subst hu
      exact ⟨⟨r2, e2⟩, rfl, k2⟩
    by_cases hn : r1 ≠ [] ∨ (i.op ≠ 5 ∧ i.op ≠ 11)
    · have hn2 : r2 ≠ [] ∨ (i.op ≠ 5 ∧ i.op ≠ 11) := by
        rcases hn with hn | hn
        · left
          intro e
          rw [e] at hlen
          exact hn (List.eq_nil_of_length_eq_zero hlen)
        · exact .inr hn
      obtain ⟨⟨q1, f1⟩, v1, _⟩ := KB.take g1 hd e1 hn t1 h1
      obtain ⟨⟨q2, f2⟩, v2, _⟩ := KB.take g2 hd e2 hn2 t2 h2
      right
      refine ⟨p, c, q1, q2, f1, f2, hd, ?_, v1.trans (hv.trans v2.symm)⟩
      have b1 := take_shp h1
      have b2 := take_shp h2
      rw [f1, e1] at b1
      rw [f2, e2] at b2
      have N1 : shp (p ++ c :: r1) ≠ [] := by simp [shp]
      have N2 : shp (p ++ c :: r2) ≠ [] := by simp [shp]
      have b1' : (2, R1) :: shp (p ++ c :: q1) = shpStep i ((2, R1) :: shp (p ++ c :: r1)) := b1
      have b2' : (2, R2) :: shp (p ++ c :: q2) = shpStep i ((2, R2) :: shp (p ++ c :: r2)) := b2
      rw [shpStep_cons N1] at b1'
      rw [shpStep_cons N2] at b2'
      injection b1' with _ b1'
      injection b2' with _ b2'
      have Y : shp (p ++ c :: r1) = shp (p ++ c :: r2) := by
        rw [shp_app, shp_app]
        show _ ++ ((c.op, c.fin) :: shp r1) = _ ++ ((c.op, c.fin) :: shp r2)
        rw [hsh]
      rw [Y, ← b2', shp_app, shp_app] at b1'
      have b3 := List.append_cancel_left b1'
      injection b3
    · have hr1 : r1 = [] := by
        by_cases h0 : r1 = []
        · exact h0
        · exact absurd (.inl h0) hn
      have hop : i.op = 5 ∨ i.op = 11 := by
        by_cases h5 : i.op = 5
        · exact .inl h5
        · by_cases h11 : i.op = 11
          · exact .inr h11
          · exact absurd (.inr ⟨h5, h11⟩) hn
      have hr2 : r2 = [] := by
        rw [hr1] at hlen
        exact List.eq_nil_of_length_eq_zero hlen.symm
      subst hr1 hr2
      left
      unfold takeR at h1 h2
      rcases hop with h5 | h11
      · have hk1 : Ins.kd i.op = 1 := by rw [h5]; decide
        rw [if_pos hk1] at h1 h2
        unfold plainR at h1 h2
        rw [h5, if_neg (by decide), if_neg (by decide), if_pos rfl] at h1 h2
        obtain ⟨rfl, _⟩ := turn_dead k1 e1 h1
        obtain ⟨rfl, _⟩ := turn_dead k2 e2 h2
        exact ⟨hv, p ++ [⟨5, c.fin, c.ht, false⟩], rfl, rfl⟩
      · have hk1 : Ins.kd i.op = 1 := by rw [h11]; decide
        rw [if_pos hk1] at h1 h2
        unfold plainR at h1 h2
        rw [h11, if_neg (by decide), if_neg (by decide), if_neg (by decide), if_pos rfl] at h1 h2
        obtain ⟨rfl, _⟩ := end_dead (E := E) k1 e1 h1
        obtain ⟨rfl, _⟩ := end_dead (E := E) k2 e2 h2
        exact ⟨by simp only [hv], p, rfl, rfl⟩
/-- What is dead outermost stays so. -/
theorem dead_stays {E : EnvP} {R : List Int} {i : Ins.Ins} {s t : Stk} {r : List Ctl} (hs : sane s = true) (hc : s.cs = ⟨2, R, 0, true⟩ :: r) (h : takeR E i s = .ok t) : ∃ r', t.cs = ⟨2, R, 0, true⟩ :: r' := by
  have g1 : KB [] ⟨2, R, 0, true⟩ (s.vals.take 0) (.ok s) := fun u hu => by
    injection hu with hu
    subst hu
    exact ⟨⟨r, hc⟩, rfl, hs⟩
  by_cases hn : r ≠ [] ∨ (i.op ≠ 5 ∧ i.op ≠ 11)
  · obtain ⟨⟨q1, f1⟩, _⟩ := KB.take g1 rfl hc hn t h
    exact ⟨q1, f1⟩
  · have hr1 : r = [] := by
      by_cases h0 : r = []
      · exact h0
      · exact absurd (.inl h0) hn
    have hop : i.op = 5 ∨ i.op = 11 := by
      by_cases h5 : i.op = 5
      · exact .inl h5
      · by_cases h11 : i.op = 11
        · exact .inr h11
        · exact absurd (.inr ⟨h5, h11⟩) hn
    subst hr1
    exfalso
    unfold takeR at h
    rcases hop with h5 | h11
    · have hk1 : Ins.kd i.op = 1 := by rw [h5]; decide
      rw [if_pos hk1] at h
      unfold plainR at h
      rw [h5, if_neg (by decide), if_neg (by decide), if_pos rfl] at h
      obtain ⟨_, h4⟩ := turn_dead (p := []) hs hc h
      exact absurd (show (2 : Int) = 4 from h4) (by decide)
    · have hk1 : Ins.kd i.op = 1 := by rw [h11]; decide
      rw [if_pos hk1] at h
      unfold plainR at h
      rw [h11, if_neg (by decide), if_neg (by decide), if_neg (by decide), if_pos rfl] at h
      obtain ⟨_, h4⟩ := end_dead (E := E) (p := []) hs hc h
      rw [hc] at h4
      simp at h4
theorem instr_take {E : EnvP} {i : Ins.Ins} {s t : Stk} (h : instrR E i s = .ok t) : takeR E i s = .ok t := by
  unfold instrR at h
  split at h
  · cases h
  · exact h
theorem go_dead {E : EnvP} {R : List Int} : ∀ (l : List Ins.Ins) (s : Stk) (r : List Ctl), sane s = true → s.cs = ⟨2, R, 0, true⟩ :: r → (pathGo E l s).2 = 0 → ∃ r', (lastS (pathGo E l s).1).cs = ⟨2, R, 0, true⟩ :: r'
  | [], s, r, _, hc, _ => ⟨r, hc⟩
  | i :: l, s, r, hs, hc, h => by
    unfold pathGo at h ⊢
    cases hx : instrR E i s with
    | er e =>
      rw [hx] at h
      exact absurd h (instr_nz i s e hx)
    | ok t =>
      rw [hx] at h
      obtain ⟨r', hr'⟩ := dead_stays hs hc (instr_take hx)
      simp only [lastS_cons (go_ne l _)]
      exact go_dead l t r' (instr_sane hs hx) hr' h
theorem alive_step {E : EnvP} {R : List Int} {l : List Ins.Ins} {i : Ins.Ins} {s t : Stk} (hs : sane s = true) (ha : Alive R s) (hx : instrR E i s = .ok t) (h : (pathGo E l t).2 = 0) (hl : Alive R (lastS (pathGo E l t).1)) : Alive R t := by
  obtain ⟨r, hr⟩ := ha
  have hf : Fst R s := ⟨false, by rw [hr]; rfl⟩
  obtain ⟨d, hd⟩ := FsR.take (fun v hv => by injection hv with hv; rw [← hv]; exact hf) t (instr_take hx)
  obtain ⟨q, hq⟩ : ∃ q, t.cs = ⟨2, R, 0, d⟩ :: q := by
    cases hc : t.cs with
    | nil => rw [hc] at hd; cases hd
    | cons c q =>
      rw [hc, List.head?_cons, Option.some.injEq] at hd
      exact ⟨q, by rw [hd]⟩
  cases d with
  | false => exact ⟨q, hq⟩
  | true =>
    exfalso
    obtain ⟨r1, h1⟩ := go_dead l t q (instr_sane hs hx) hq h
    obtain ⟨r2, h2⟩ := hl
    rw [h1] at h2
    injection h2 with h2
    have h3 := congrArg Ctl.dead h2
    exact absurd h3 (by simp)
theorem go_sim {E : EnvP} {R1 R2 : List Int} (q1 : saneE (withR E R1) = true) (q2 : saneE (withR E R2) = true) : ∀ (l : List Ins.Ins) (s1 s2 : Stk), Sim R1 R2 s1 s2 → sane s1 = true → sane s2 = true → Live s1 → Live s2 → (pathGo (withR E R1) l s1).2 = 0 → (pathGo (withR E R2) l s2).2 = 0 → Alive R1 (lastS (pathGo (withR E R1) l s1).1) → Alive R2 (lastS (pathGo (withR E R2) l s2).1) → Sim R1 R2 (lastS (pathGo (withR E R1) l s1).1) (lastS (pathGo (withR E R2) l s2).1)
  | [], s1, s2, h, _, _, _, _, _, _, _, _ => h
  | i :: l, s1, s2, h, k1, k2, l1, l2, h1, h2, a1, a2 => by
    unfold pathGo at h1 h2 a1 a2 ⊢
    cases x1 : instrR (withR E R1) i s1 with
    | er e =>
      rw [x1] at h1
      exact absurd h1 (instr_nz i s1 e x1)
    | ok t1 =>
      cases x2 : instrR (withR E R2) i s2 with
      | er e =>
        rw [x2] at h2
        exact absurd h2 (instr_nz i s2 e x2)
      | ok t2 =>
        rw [x1] at h1 a1
        rw [x2] at h2 a2
        simp only [lastS_cons (go_ne l _)] at a1 a2 ⊢
        have b1 := alive_step k1 h.alive.1 x1 h1 a1
        have b2 := alive_step k2 h.alive.2 x2 h2 a2
        exact go_sim q1 q2 l t1 t2 (step_sim h k1 k2 l1 l2 (instr_take x1) (instr_take x2) b1 b2) (instr_sane k1 x1) (instr_sane k2 x2) (instr_live q1 l1 x1) (instr_live q2 l2 x2) h1 h2 a1 a2
/-- CheckResults: two results that a body fits for, to an end that is come to, are one. -/
theorem results_one {E : EnvP} {l : List Ins.Ins} {R1 R2 : List Int} {a1 a2 : Stk} (h1 : bodyR (withR E R1) l = 0) (h2 : bodyR (withR E R2) l = 0) (g1 : (pathR (withR E R1) l).1[l.length]? = some a1) (g2 : (pathR (withR E R2) l).1[l.length]? = some a2) (k1 : a1.cs = [⟨2, R1, 0, false⟩]) (k2 : a2.cs = [⟨2, R2, 0, false⟩]) : R1 = R2 := by
  have key : ∀ {R : List Int} {a : Stk}, bodyR (withR E R) l = 0 → (pathR (withR E R) l).1[l.length]? = some a → a.cs = [⟨2, R, 0, false⟩] → (pathGo (withR E R) l (s0 (withR E R))).2 = 0 ∧ saneE (withR E R) = true ∧ lastS (pathGo (withR E R) l (s0 (withR E R))).1 = a ∧ a.vals = R := by
    intro R a h g k
    obtain ⟨p0, b, hb, _, _, d, hd, hv⟩ := leaves h
    rw [g] at hb
    injection hb with hb
    subst hb
    obtain ⟨_, w2, w3, w4⟩ := path_ok p0
    have hla : lastS (pathR (withR E R) l).1 = a := by
      unfold lastS
      rw [List.getLast?_eq_getElem?, w4, Nat.add_sub_cancel, g]
      rfl
    rw [w3] at hla p0
    rw [hd] at k
    injection k with k
    have hdf := congrArg Ctl.dead k
    exact ⟨p0, w2, hla, hv hdf⟩
  obtain ⟨p1, q1, m1, v1⟩ := key h1 g1 k1
  obtain ⟨p2, q2, m2, v2⟩ := key h2 g2 k2
  have h := go_sim q1 q2 l (s0 (withR E R1)) (s0 (withR E R2)) (.inl ⟨rfl, [], rfl, rfl⟩) (s0_sane q1) (s0_sane q2) (s0_live _) (s0_live _) p1 p2 (by rw [m1]; exact ⟨[], k1⟩) (by rw [m2]; exact ⟨[], k2⟩)
  rw [m1, m2] at h
  rcases h with ⟨hv, _⟩ | ⟨p, c, r1, r2, e1, _⟩
  · rw [← v1, ← v2, hv]
  · rw [k1] at e1
    have := congrArg List.length e1
    simp at this
end Go.Proofs.YtlappkflnlbfcaaGreatDoor.Chk
