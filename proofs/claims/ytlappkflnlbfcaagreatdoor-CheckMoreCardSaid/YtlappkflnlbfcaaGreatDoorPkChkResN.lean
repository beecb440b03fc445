/- ChkMoreN, ChkResM, ChkResN. -/
import Derived.Test.YtlappkflnlbfcaaGreatDoorPkChkMoreM
section
/- CheckMore, plain: a body in a block, and one that is never come to. -/
namespace Go.Proofs.YtlappkflnlbfcaaGreatDoor.Chk
open Go.RowKit Row9 Stk
set_option maxRecDepth 100000
set_option maxHeartbeats 1000000
set_option linter.unusedVariables false
theorem blk_at (E : EnvP) : instrR E ⟨2, 0, 0, 0, []⟩ ⟨[], [⟨2, [], 0, false⟩]⟩ = .ok ⟨[], [⟨2, [], 0, false⟩, ⟨2, [], 0, false⟩]⟩ := rfl
theorem end_at (E : EnvP) (d : Bool) : instrR E ⟨11, 0, 0, 0, []⟩ ⟨[], [⟨2, [], 0, false⟩, ⟨2, [], 0, d⟩]⟩ = .ok ⟨[], [⟨2, [], 0, false⟩]⟩ := by
  cases d <;> rfl
theorem dead_at (E : EnvP) : instrR E ⟨0, 0, 0, 0, []⟩ ⟨[], [⟨2, [126], 0, false⟩]⟩ = .ok ⟨[], [⟨2, [126], 0, true⟩]⟩ := rfl
theorem withR_self {E : EnvP} {r : List Int} (h : E.results = r) : withR E r = E := by
  subst h
  rfl
/-- What a stack of one block, and what is below it, looks like. -/
theorem up_one {pr : List Ctl} {f r0 : List Int} {g : Bool} {s s' : Stk} (hu : Up pr f g s s') (hv : s.vals = []) {d : Bool} (hc : s.cs = [⟨2, r0, 0, d⟩]) : ∃ d', s' = ⟨[], pr ++ [⟨2, f, 0, d'⟩]⟩ ∧ (g = true → d' = true) := by
  obtain ⟨c0, c0', r, r', g1, g2, g3, g4, g5, g6⟩ := hu.cs
  rw [hc] at g1
  injection g1 with g1 g0
  subst g0
  cases g6
  obtain ⟨o', fi', ht', de'⟩ := c0'
  obtain ⟨e1, e2, e4⟩ := g5
  have e3 := g3.ht
  simp only at e1 e2 e3 e4
  subst e1 e2
  rw [← g1] at e3
  simp only at e3
  subst e3
  have h1 := hu.vals
  rw [hv] at h1
  obtain ⟨v', cs'⟩ := s'
  simp only at h1 g2
  subst h1 g2
  exact ⟨de', rfl, e4⟩
/-- CheckMore's second: in a block. -/
theorem more_in {E : EnvP} (hE : E.results = []) {l : List Ins.Ins} (hl : bodyR E l = 0) (hb : ∀ i ∈ l, i.op < 12 ∨ 15 < i.op) : bodyR E (⟨2, 0, 0, 0, []⟩ :: l ++ [⟨11, 0, 0, 0, []⟩]) = 0 := by
  obtain ⟨n1, q1, p1, s1, v1, d1, c1, _⟩ := body_ok hl
  rw [hE] at v1 c1
  have hv := List.eq_nil_of_length_eq_zero (Nat.le_zero.1 v1)
  have hs0 : s0 E = ⟨[], [⟨2, [], 0, false⟩]⟩ := by unfold s0; rw [hE]
  have hu : Up [⟨2, [], 0, false⟩] [] false (s0 E) ⟨[], [⟨2, [], 0, false⟩, ⟨2, [], 0, false⟩]⟩ := by
    rw [hs0]
    exact ⟨rfl, ⟨⟨2, [], 0, false⟩, ⟨2, [], 0, false⟩, [], [], rfl, rfl, ⟨rfl, fun e => by cases e⟩, rfl, ⟨rfl, rfl, fun e => by cases e⟩, .nil⟩, rfl, rfl⟩
  obtain ⟨a1, a2⟩ := go_up (R := []) l (s0 E) _ hu hb p1
  rw [withR_self hE] at a1 a2
  obtain ⟨d', hd, _⟩ := up_one a2 hv c1
  have p2 : (pathGo E (⟨2, 0, 0, 0, []⟩ :: l) (s0 E)).2 = 0 ∧ lastS (pathGo E (⟨2, 0, 0, 0, []⟩ :: l) (s0 E)).1 = ⟨[], [⟨2, [], 0, false⟩, ⟨2, [], 0, d'⟩]⟩ := by
    unfold pathGo
    rw [hs0, blk_at]
    simp only [lastS_cons (go_ne l _)]
    exact ⟨a1, hd⟩
  obtain ⟨b1, b2⟩ := go_app [⟨11, 0, 0, 0, []⟩] _ (s0 E) p2.1
  rw [p2.2] at b1 b2
  have e1 : pathGo E [⟨11, 0, 0, 0, []⟩] ⟨[], [⟨2, [], 0, false⟩, ⟨2, [], 0, d'⟩]⟩ = ([⟨[], [⟨2, [], 0, false⟩, ⟨2, [], 0, d'⟩]⟩, ⟨[], [⟨2, [], 0, false⟩]⟩], 0) := by
    unfold pathGo
    rw [end_at]
    rfl
  rw [e1] at b1 b2
  refine body_of ?_ q1 b1 (by rw [b2]; rfl)
  rw [opsP_app]
  exact (Bod.nested_in n1).1
theorem saneE_r {E : EnvP} (h : saneE E = true) : saneE (withR E [126]) = true := by
  unfold saneE at h ⊢
  simp only [Bool.and_eq_true] at h ⊢
  exact ⟨⟨⟨rfl, h.1.1.2⟩, h.1.2⟩, h.2⟩
/-- CheckMore's third: behind what is never passed. -/
theorem more_dead {E : EnvP} (hE : E.results = []) {l : List Ins.Ins} (hl : bodyR E l = 0) (hb : ∀ i ∈ l, i.op < 12 ∨ 15 < i.op) : bodyR (withR E [126]) (⟨0, 0, 0, 0, []⟩ :: l) = 0 := by
  obtain ⟨n1, q1, p1, s1, v1, d1, c1, _⟩ := body_ok hl
  rw [hE] at v1 c1
  have hv := List.eq_nil_of_length_eq_zero (Nat.le_zero.1 v1)
  have hs0 : s0 E = ⟨[], [⟨2, [], 0, false⟩]⟩ := by unfold s0; rw [hE]
  have hs1 : s0 (withR E [126]) = ⟨[], [⟨2, [126], 0, false⟩]⟩ := rfl
  have hu : Up [] [126] true (s0 E) ⟨[], [⟨2, [126], 0, true⟩]⟩ := by
    rw [hs0]
    exact ⟨rfl, ⟨⟨2, [], 0, false⟩, ⟨2, [126], 0, true⟩, [], [], rfl, rfl, ⟨rfl, fun e => by cases e⟩, rfl, ⟨rfl, rfl, fun _ => rfl⟩, .nil⟩, rfl, rfl⟩
  obtain ⟨a1, a2⟩ := go_up (R := [126]) l (s0 E) _ hu hb p1
  obtain ⟨d', hd, hdt⟩ := up_one a2 hv c1
  obtain rfl := hdt rfl
  have p2 : (pathGo (withR E [126]) (⟨0, 0, 0, 0, []⟩ :: l) (s0 (withR E [126]))).2 = 0 ∧ lastS (pathGo (withR E [126]) (⟨0, 0, 0, 0, []⟩ :: l) (s0 (withR E [126]))).1 = ⟨[], [⟨2, [126], 0, true⟩]⟩ := by
    unfold pathGo
    rw [hs1, dead_at]
    simp only [lastS_cons (go_ne l _)]
    exact ⟨a1, hd⟩
  refine body_of ?_ (saneE_r q1) p2.1 (by rw [p2.2]; rfl)
  have h0 : Bod.Nested [(0 : Int)] := rfl
  exact (Bod.nested_app h0 n1).1
end Go.Proofs.YtlappkflnlbfcaaGreatDoor.Chk
end

section
/- CheckResults, plain: what a step leaves alone that stands above what is dead. -/
namespace Go.Proofs.YtlappkflnlbfcaaGreatDoor.Chk
open Go.RowKit Row9 Stk
set_option maxRecDepth 100000
set_option maxHeartbeats 1000000
set_option linter.unusedVariables false
theorem push_at {l : List Int} {x : Rs} {t : Stk} (h : pushR l x = .ok t) : ∃ u, x = .ok u ∧ t = ⟨u.vals ++ l, u.cs⟩ := by
  obtain ⟨u, hu, h2⟩ := bind_ok h
  obtain ⟨h0, h3⟩ := ofP_ok h2
  refine ⟨u, hu, ?_⟩
  rw [← h3]
  simp only [pushS] at h0 ⊢
  split at h0
  · exact absurd h0 (by decide)
  · rename_i h1
    rw [if_neg h1]
    split at h0
    · exact absurd h0 (by decide)
    · rename_i h2
      rw [if_neg h2]
theorem want_at {l : List Int} {x : Rs} {t : Stk} (h : wantR l x = .ok t) : ∃ u vs, x = .ok u ∧ wantV u.cs.getLast? u.vals l.reverse = some vs ∧ t = ⟨vs, u.cs⟩ := by
  obtain ⟨u, hu, h2⟩ := bind_ok h
  obtain ⟨h0, h3⟩ := ofP_ok h2
  simp only [wantS] at h0 h3
  split at h0
  · exact absurd h0 (by decide)
  · rename_i h1
    rw [if_neg h1] at h3
    cases hw : wantV u.cs.getLast? u.vals l.reverse with
    | none => rw [hw] at h0; exact absurd (show (5 : Int) = 0 from h0) (by decide)
    | some vs =>
      rw [hw] at h3
      exact ⟨u, vs, hu, hw, h3.symm⟩
theorem pop_at {x : Rs} {t : Stk} (h : popR x = .ok t) : ∃ u vs v, x = .ok u ∧ popV u.cs.getLast? u.vals = some (vs, v) ∧ t = ⟨vs, u.cs⟩ := by
  obtain ⟨u, hu, h2⟩ := bind_ok h
  obtain ⟨h0, h3⟩ := ofP_ok h2
  simp only [popS] at h0 h3
  split at h0
  · exact absurd h0 (by decide)
  · rename_i h1
    rw [if_neg h1] at h3
    cases hw : popV u.cs.getLast? u.vals with
    | none => rw [hw] at h0; exact absurd (show (5 : Int) = 0 from h0) (by decide)
    | some p =>
      rw [hw] at h3
      exact ⟨u, p.1, p.2, hu, hw, h3.symm⟩
theorem open_at {op : Int} {l : List Int} {x : Rs} {t : Stk} (h : openR op l x = .ok t) : ∃ u, x = .ok u ∧ t = ⟨u.vals, u.cs ++ [⟨op, l, u.vals.length, false⟩]⟩ := by
  obtain ⟨u, hu, h2⟩ := bind_ok h
  obtain ⟨h0, h3⟩ := ofP_ok h2
  refine ⟨u, hu, ?_⟩
  rw [← h3]
  simp only [openS] at h0 ⊢
  split at h0
  · exact absurd h0 (by decide)
  · rename_i h1
    rw [if_neg h1]
    split at h0
    · exact absurd h0 (by decide)
    · rename_i h2
      rw [if_neg h2]
theorem kill_from {x : Rs} {t : Stk} (h : killR x = .ok t) : ∃ u q c, x = .ok u ∧ u.cs = q ++ [c] ∧ t = ⟨u.vals.take c.ht.toNat, q ++ [{ c with dead := true }]⟩ := by
  obtain ⟨u, hu, h2⟩ := bind_ok h
  obtain ⟨h0, h3⟩ := ofP_ok h2
  cases hs : sane u with
  | false =>
    unfold killS at h0
    rw [if_pos hs] at h0
    exact absurd h0 (by decide)
  | true =>
    rcases last_cases u.cs with hc | ⟨q, c, hc⟩
    · unfold killS at h0
      rw [if_neg (by rw [hs]; decide), hc] at h0
      exact absurd (show (5 : Int) = 0 from h0) (by decide)
    · rw [killS_last hs hc] at h3
      exact ⟨u, q, c, hu, hc, h3.symm⟩
theorem close_from {x : Rs} {t : Stk} (h : closeR x = .ok t) : ∃ u q c, x = .ok u ∧ u.cs = q ++ [c] ∧ wantV (some c) u.vals c.fin.reverse = some t.vals ∧ (t.vals.length : Int) = c.ht ∧ t.cs = q ∧ closedC x = c := by
  obtain ⟨u, hu, h2⟩ := bind_ok h
  obtain ⟨h0, h3⟩ := ofP_ok h2
  subst hu
  simp only at h0 h3
  cases hs : sane u with
  | false =>
    unfold closeS at h0
    rw [if_pos hs] at h0
    exact absurd h0 (by decide)
  | true =>
    rcases last_cases u.cs with hc | ⟨q, c, hc⟩
    · rw [close_empty hs hc] at h0
      exact absurd h0 (by decide)
    · have e := close_last hs hc
      cases hw : wantV (some c) u.vals c.fin.reverse with
      | none => rw [e, hw] at h0; exact absurd (show (5 : Int) = 0 from h0) (by decide)
      | some vs =>
        rw [hw] at e
        simp only at e
        by_cases hl : (vs.length : Int) ≠ c.ht
        · rw [e, if_pos hl] at h0
          exact absurd (show (5 : Int) = 0 from h0) (by decide)
        · rw [if_neg hl] at e
          rw [e] at h3
          subst h3
          refine ⟨u, q, c, rfl, hc, hw, by simpa using hl, rfl, ?_⟩
          show (closeS u).2.1 = c
          rw [e]
/-- What lies further out lies no higher. -/
theorem sane_mono {s : Stk} (h : sane s = true) {p r : List Ctl} {c d : Ctl} (hc : s.cs = p ++ c :: r) (hd : s.cs.getLast? = some d) : 0 ≤ c.ht ∧ c.ht ≤ d.ht ∧ d.ht ≤ s.vals.length := by
  obtain ⟨z, h1, h2, _⟩ := (sane_iff s).1 h
  have hz := sgo_last h1 hd
  rw [hc, sgo_append] at h1
  have h4 := (sane_ht h c (by rw [hc]; simp)).1
  cases hq : sgo 0 p with
  | none => rw [hq] at h1; cases h1
  | some z' =>
    rw [hq] at h1
    simp only [sgo] at h1
    split at h1
    · have := (sgo_ht r c.ht z h1).1
      omega
    · cases h1
theorem pre_take {v w : List Int} (h : v <+: w) {k : Nat} (hk : k ≤ v.length) : v.take k = w.take k := by
  obtain ⟨t, rfl⟩ := h
  rw [List.take_append_of_le_length hk]
/-- Above what is dead; and what is below it. -/
def KB (p : List Ctl) (c : Ctl) (v : List Int) (x : Rs) : Prop := ∀ t, x = .ok t → (∃ r, t.cs = p ++ c :: r) ∧ t.vals.take c.ht.toNat = v ∧ sane t = true
theorem KB.oks {p : List Ctl} {c : Ctl} {v : List Int} {x : Rs} (h : KB p c v x) : OkS x := fun t ht => (h t ht).2.2
theorem last_of {p r : List Ctl} {c : Ctl} : ∃ d, (p ++ c :: r).getLast? = some d := by
  cases hq : (p ++ c :: r).getLast? with
  | none => rw [List.getLast?_eq_none_iff] at hq; simp at hq
  | some d => exact ⟨d, rfl⟩
theorem kb_vals {p : List Ctl} {c : Ctl} {v : List Int} {u : Stk} {r : List Ctl} (hs : sane u = true) (hr : u.cs = p ++ c :: r) (hv : u.vals.take c.ht.toNat = v) {vs : List Int} (hp : vs <+: u.vals) (hs2 : sane ⟨vs, u.cs⟩ = true) : vs.take c.ht.toNat = v := by
  obtain ⟨d, hd⟩ := last_of (p := p) (c := c) (r := r)
  rw [← hr] at hd
  have := sane_mono (s := ⟨vs, u.cs⟩) hs2 hr hd
  simp only at this
  rw [pre_take hp (by omega)]
  exact hv
theorem KB.push {p : List Ctl} {c : Ctl} {v l : List Int} {x : Rs} (h : KB p c v x) : KB p c v (pushR l x) := fun t ht => by
  have hs := h.oks.push t ht
  obtain ⟨u, rfl, rfl⟩ := push_at ht
  obtain ⟨⟨r, hr⟩, hv, hsu⟩ := h u rfl
  obtain ⟨d, hd⟩ := last_of (p := p) (c := c) (r := r)
  rw [← hr] at hd
  have := sane_mono hsu hr hd
  refine ⟨⟨r, hr⟩, ?_, hs⟩
  simp only
  rw [List.take_append_of_le_length (by omega)]
  exact hv
theorem KB.want {p : List Ctl} {c : Ctl} {v l : List Int} {x : Rs} (h : KB p c v x) : KB p c v (wantR l x) := fun t ht => by
  have hs := h.oks.want t ht
  obtain ⟨u, vs, rfl, hw, rfl⟩ := want_at ht
  obtain ⟨⟨r, hr⟩, hv, hsu⟩ := h u rfl
  exact ⟨⟨r, hr⟩, kb_vals hsu hr hv (wantV_pre _ hw) hs, hs⟩
theorem KB.pop {p : List Ctl} {c : Ctl} {v : List Int} {x : Rs} (h : KB p c v x) : KB p c v (popR x) := fun t ht => by
  have hs := h.oks.pop t ht
  obtain ⟨u, vs, w, rfl, hw, rfl⟩ := pop_at ht
  obtain ⟨⟨r, hr⟩, hv, hsu⟩ := h u rfl
  exact ⟨⟨r, hr⟩, kb_vals hsu hr hv (popV_pre hw) hs, hs⟩
theorem KB.open {p : List Ctl} {c : Ctl} {v l : List Int} {op : Int} {x : Rs} (h : KB p c v x) : KB p c v (openR op l x) := fun t ht => by
  have hs := h.oks.open t ht
  obtain ⟨u, rfl, rfl⟩ := open_at ht
  obtain ⟨⟨r, hr⟩, hv, hsu⟩ := h u rfl
  exact ⟨⟨r ++ [⟨op, l, u.vals.length, false⟩], by simp only [hr, List.append_assoc, List.cons_append]⟩, hv, hs⟩
theorem snoc_at {q p r : List Ctl} {c d : Ctl} (h : q ++ [d] = p ++ c :: r) : (r = [] ∧ q = p ∧ d = c) ∨ ∃ r', r = r' ++ [d] ∧ q = p ++ c :: r' := by
  rcases last_cases r with rfl | ⟨r', e, rfl⟩
  · have := List.append_inj' h rfl
    exact .inl ⟨rfl, this.1, by simpa using this.2⟩
  · rw [← List.cons_append, ← List.append_assoc] at h
    have := List.append_inj' h rfl
    have h2 : d = e := by simpa using this.2
    subst h2
    exact .inr ⟨r', rfl, this.1⟩
theorem KB.kill {p : List Ctl} {c : Ctl} {v : List Int} {x : Rs} (h : KB p c v x) (hd : c.dead = true) : KB p c v (killR x) := fun t ht => by
  have hs := h.oks.kill t ht
  obtain ⟨u, q, d, rfl, hq, rfl⟩ := kill_from ht
  obtain ⟨⟨r, hr⟩, hv, hsu⟩ := h u rfl
  have hm := sane_mono (d := d) hsu hr (by rw [hq]; simp)
  refine ⟨?_, ?_, hs⟩
  · rcases snoc_at (hq.symm.trans hr) with ⟨rfl, rfl, rfl⟩ | ⟨r', rfl, rfl⟩
    · refine ⟨[], ?_⟩
      obtain ⟨o, fi, hh, dd⟩ := d
      simp only at hd
      subst hd
      rfl
    · exact ⟨r' ++ [{ d with dead := true }], by simp only [List.append_assoc, List.cons_append]⟩
  · simp only
    rw [List.take_take, Nat.min_eq_left (by omega)]
    exact hv
theorem KB.need {p : List Ctl} {c : Ctl} {v : List Int} {b : Bool} {e : Int} {x : Rs} (h : KB p c v x) : KB p c v (needR b e x) := fun t ht => h t (need_same ht)
theorem label_from {n : Int} {x : Rs} {t : Stk} (h : labelR n x = .ok t) : x = .ok t := by
  obtain ⟨u, rfl, h2⟩ := bind_ok h
  split at h2
  · exact h2
  · cases h2
theorem KB.label {p : List Ctl} {c : Ctl} {v : List Int} {n : Int} {x : Rs} (h : KB p c v x) : KB p c v (labelR n x) := fun t ht => h t (label_from ht)
theorem KB.ite {p : List Ctl} {c : Ctl} {v : List Int} {q : Prop} [Decidable q] {x y : Rs} (h1 : KB p c v x) (h2 : KB p c v y) : KB p c v (if q then x else y) := by
  split
  · exact h1
  · exact h2
theorem KB.tab {p : List Ctl} {c : Ctl} {v l : List Int} : ∀ (r : List Int) {x : Rs}, KB p c v x → KB p c v (tabR l r x)
  | [], _, h => h
  | _ :: r, _, h => KB.tab r h.label.need
/-- What closes something inside. -/
theorem KB.close {p : List Ctl} {c : Ctl} {v : List Int} {s : Stk} {b : Bool} {e : Int} (h : KB p c v (.ok s)) {r : List Ctl} (hr : s.cs = p ++ c :: r) (hn : r ≠ []) : KB p c v (closeR (needR b e (.ok s))) := fun t ht => by
  have hs := h.oks.need.close t ht
  obtain ⟨u, q, d, hu, hq, hw, hl, hc, _⟩ := close_from ht
  have := need_same hu
  injection this with this
  subst this
  obtain ⟨_, hv, hsu⟩ := h s rfl
  rcases snoc_at (hq.symm.trans hr) with ⟨h1, _⟩ | ⟨r', rfl, rfl⟩
  · exact absurd h1 hn
  · have hm := sane_mono (d := d) hsu hr (by rw [hq]; exact List.getLast?_concat)
    refine ⟨⟨r', hc⟩, ?_, hs⟩
    rw [pre_take (wantV_pre _ hw) (by omega)]
    exact hv
theorem KB.take {p : List Ctl} {c : Ctl} {v : List Int} {E : EnvP} {i : Ins.Ins} {s : Stk} (h : KB p c v (.ok s)) (hd : c.dead = true) {r : List Ctl} (hr : s.cs = p ++ c :: r) (hn : r ≠ [] ∨ (i.op ≠ 5 ∧ i.op ≠ 11)) : KB p c v (takeR E i s) := by
  unfold takeR
  refine KB.ite ?_ (KB.ite ?_ (KB.ite ?_ (KB.ite ((KB.tab _ h.label).want.want.kill hd) (KB.ite h.need.need.want.want.push (KB.ite ?_ (KB.ite ?_ (KB.ite h.push h.push)))))))
  · unfold plainR
    refine KB.ite (h.kill hd) (KB.ite h.push ?_)
    by_cases h5 : i.op = 5
    · rw [if_pos h5]
      exact (h.close hr (by rcases hn with hn | hn; exact hn; exact absurd h5 hn.1)).open
    rw [if_neg h5]
    by_cases h11 : i.op = 11
    · rw [if_pos h11]
      exact (h.close hr (by rcases hn with hn | hn; exact hn; exact absurd h11 hn.2)).need.push
    rw [if_neg h11]
    exact KB.ite (h.want.kill hd) (KB.ite h.pop (KB.ite h.want.pop.pop.need.push h.want.push))
  · exact (KB.ite h.want h).open
  · unfold indexR
    refine KB.ite (h.label.want.kill hd) (KB.ite h.label.want.want.push (KB.ite h.need.want.push (KB.ite ?_ (KB.ite h.need.push (KB.ite h.need.need.want h)))))
    unfold localR
    exact KB.ite (KB.ite h.need h.need.want) (KB.ite h.need h.need.want).push
  · unfold accessR
    exact KB.ite h.need.need.want h.need.need.want.push
  · exact (KB.ite h.need h.need.want).push
/-- What is closed just where it is dead. -/
theorem end_dead {E : EnvP} {s t : Stk} {p : List Ctl} {c : Ctl} (hs : sane s = true) (hc : s.cs = p ++ [c]) (h : endR s = .ok t) : t = ⟨s.vals.take c.ht.toNat ++ c.fin, p⟩ ∧ 2 ≤ s.cs.length := by
  unfold endR at h
  obtain ⟨u, hu, rfl⟩ := push_at h
  have h1 := need_same hu
  obtain ⟨u1, q, d, h2, hq, hw, hl, hcs, hcl⟩ := close_from h1
  have hb := need_true h2
  have := need_same h2
  injection this with this
  subst this
  have h3 := List.append_inj' (hq.symm.trans hc) rfl
  obtain rfl := h3.1
  obtain rfl : d = c := by simpa using h3.2
  rw [hcl, hcs]
  refine ⟨?_, by simpa using hb⟩
  have h4 := pre_take (wantV_pre _ hw) (Nat.le_refl _)
  rw [List.take_length] at h4
  rw [h4, show d.ht.toNat = u.vals.length by omega]
theorem turn_dead {s t : Stk} {p : List Ctl} {c : Ctl} (hs : sane s = true) (hc : s.cs = p ++ [c]) (h : turnR s = .ok t) : t = ⟨s.vals.take c.ht.toNat, p ++ [⟨5, c.fin, c.ht, false⟩]⟩ ∧ c.op = 4 := by
  unfold turnR at h
  obtain ⟨u, hu, rfl⟩ := open_at h
  obtain ⟨u1, q, d, h2, hq, hw, hl, hcs, hcl⟩ := close_from hu
  have hb := need_true h2
  have := need_same h2
  injection this with this
  subst this
  have h3 := List.append_inj' (hq.symm.trans hc) rfl
  obtain rfl := h3.1
  obtain rfl : d = c := by simpa using h3.2
  rw [hcl, hcs, hl]
  rw [Bool.and_eq_true, beq_iff_eq] at hb
  refine ⟨?_, ?_⟩
  · have h4 := pre_take (wantV_pre _ hw) (Nat.le_refl _)
    rw [List.take_length] at h4
    rw [h4, show d.ht.toNat = u.vals.length by omega]
  · rw [← last_eq (s := s) (c := d) (by rw [hc]; simp)]
    exact hb.2
end Go.Proofs.YtlappkflnlbfcaaGreatDoor.Chk
end

section
/- CheckResults, plain: two runs of one body, for two results. -/
namespace Go.Proofs.YtlappkflnlbfcaaGreatDoor.Chk
open Go.RowKit Row9 Stk
set_option maxRecDepth 100000
set_option maxHeartbeats 1000000
set_option linter.unusedVariables false
/-- What stands open, without where. -/
def shp (cs : List Ctl) : List (Int × List Int) := cs.map fun c => (c.op, c.fin)
def shpStep (i : Ins.Ins) (S : List (Int × List Int)) : List (Int × List Int) :=
  if Bod.opn i.op = true then S ++ [(i.op, if i.A = 0 then [] else [i.A])] else if i.op = 5 then S.dropLast ++ [(5, (S.getLastD (0, [])).2)] else if i.op = 11 then S.dropLast else S
theorem shpStep_cons {i : Ins.Ins} {a : Int × List Int} {S : List (Int × List Int)} (h : S ≠ []) : shpStep i (a :: S) = a :: shpStep i S := by
  obtain ⟨q, b, rfl⟩ : ∃ q b, S = q ++ [b] := by
    rcases List.eq_nil_or_concat S with e | ⟨q, b, e⟩
    · exact absurd e h
    · exact ⟨q, b, by rw [e, List.concat_eq_append]⟩
  unfold shpStep
  split
  · simp
  · split
    · rw [← List.cons_append, List.dropLast_concat, List.dropLast_concat]
      rw [List.getLastD_concat, List.getLastD_concat]
      rfl
    · split
      · rw [← List.cons_append, List.dropLast_concat, List.dropLast_concat]
      · rfl
def Sh (x : Rs) (S : List (Int × List Int)) : Prop := ∀ t, x = .ok t → shp t.cs = S
theorem shp_app (a b : List Ctl) : shp (a ++ b) = shp a ++ shp b := by simp [shp]
theorem Sh.push {x : Rs} {l : List Int} {S : List (Int × List Int)} (h : Sh x S) : Sh (pushR l x) S := fun t ht => by
  obtain ⟨u, rfl, rfl⟩ := push_at ht
  exact h u rfl
theorem Sh.want {x : Rs} {l : List Int} {S : List (Int × List Int)} (h : Sh x S) : Sh (wantR l x) S := fun t ht => by
  obtain ⟨u, vs, rfl, _, rfl⟩ := want_at ht
  exact h u rfl
theorem Sh.pop {x : Rs} {S : List (Int × List Int)} (h : Sh x S) : Sh (popR x) S := fun t ht => by
  obtain ⟨u, vs, v, rfl, _, rfl⟩ := pop_at ht
  exact h u rfl
theorem Sh.open {x : Rs} {op : Int} {l : List Int} {S : List (Int × List Int)} (h : Sh x S) : Sh (openR op l x) (S ++ [(op, l)]) := fun t ht => by
  obtain ⟨u, rfl, rfl⟩ := open_at ht
  rw [← h u rfl]
  exact shp_app _ _
theorem Sh.kill {x : Rs} {S : List (Int × List Int)} (h : Sh x S) : Sh (killR x) S := fun t ht => by
  obtain ⟨u, q, c, rfl, hq, rfl⟩ := kill_from ht
  rw [← h u rfl, hq, shp_app, shp_app]
  rfl
theorem Sh.need {x : Rs} {b : Bool} {e : Int} {S : List (Int × List Int)} (h : Sh x S) : Sh (needR b e x) S := fun t ht => h t (need_same ht)
theorem Sh.label {x : Rs} {n : Int} {S : List (Int × List Int)} (h : Sh x S) : Sh (labelR n x) S := fun t ht => h t (label_from ht)
theorem Sh.ite {c : Prop} [Decidable c] {x y : Rs} {S : List (Int × List Int)} (h1 : Sh x S) (h2 : Sh y S) : Sh (if c then x else y) S := by
  split
  · exact h1
  · exact h2
theorem Sh.tab {l : List Int} {S : List (Int × List Int)} : ∀ (r : List Int) {x : Rs}, Sh x S → Sh (tabR l r x) S
  | [], _, h => h
  | _ :: r, _, h => Sh.tab r h.label.need
theorem take_shp {E : EnvP} {i : Ins.Ins} {s t : Stk} (h : takeR E i s = .ok t) : shp t.cs = shpStep i (shp s.cs) := by
  have h0 : Sh (.ok s) (shp s.cs) := fun u hu => by injection hu with hu; rw [← hu]
  unfold shpStep
  by_cases ho : Bod.opn i.op = true
  · rw [if_pos ho]
    have hk : Ins.kd i.op = 2 := by
      unfold Bod.opn at ho
      rw [Bool.and_eq_true, decide_eq_true_eq, decide_eq_true_eq] at ho
      unfold Ins.kd
      rw [if_pos ho]
    unfold takeR at h
    rw [if_neg (by omega), if_pos hk] at h
    exact (Sh.ite h0.want h0).open t h
  · rw [if_neg ho]
    have hk : Ins.kd i.op ≠ 2 := by
      intro e
      apply ho
      unfold Bod.opn
      unfold Ins.kd at e
      split at e
      · rename_i hq
        simp [hq.1, hq.2]
      · exfalso
        repeat' (first | (split at e; omega) | omega)
    by_cases h5 : i.op = 5
    · rw [if_pos h5]
      have hk1 : Ins.kd i.op = 1 := by rw [h5]; decide
      unfold takeR at h
      rw [if_pos hk1] at h
      unfold plainR at h
      rw [h5, if_neg (by decide), if_neg (by decide), if_pos rfl] at h
      unfold turnR at h
      obtain ⟨u, hu, rfl⟩ := open_at h
      obtain ⟨u1, q, d, h2, hq, hw, hl, hcs, hcl⟩ := close_from hu
      have := need_same h2
      injection this with this
      subst this
      rw [hcl, hcs, hq, shp_app, shp_app]
      show shp q ++ [(5, d.fin)] = (shp q ++ [(d.op, d.fin)]).dropLast ++ _
      rw [List.dropLast_concat]
      simp [shp]
    · rw [if_neg h5]
      by_cases h11 : i.op = 11
      · rw [if_pos h11]
        have hk1 : Ins.kd i.op = 1 := by rw [h11]; decide
        unfold takeR at h
        rw [if_pos hk1] at h
        unfold plainR at h
        rw [h11, if_neg (by decide), if_neg (by decide), if_neg (by decide), if_pos rfl] at h
        unfold endR at h
        obtain ⟨u, hu, rfl⟩ := push_at h
        obtain ⟨u1, q, d, h2, hq, hw, hl, hcs, hcl⟩ := close_from (need_same hu)
        have := need_same h2
        injection this with this
        subst this
        rw [hcs, hq, shp_app]
        show shp q = (shp q ++ [(d.op, d.fin)]).dropLast
        rw [List.dropLast_concat]
      · rw [if_neg h11]
        refine (?_ : Sh (takeR E i s) (shp s.cs)) t h
        unfold takeR
        refine Sh.ite ?_ ?_
        · unfold plainR
          rw [if_neg h5, if_neg h11]
          exact Sh.ite h0.kill (Sh.ite h0.push (Sh.ite h0.want.kill (Sh.ite h0.pop (Sh.ite h0.want.pop.pop.need.push h0.want.push))))
        · rw [if_neg hk]
          refine Sh.ite ?_ (Sh.ite (Sh.tab _ h0.label).want.want.kill (Sh.ite h0.need.need.want.want.push (Sh.ite ?_ (Sh.ite ?_ (Sh.ite h0.push h0.push)))))
          · unfold indexR
            refine Sh.ite h0.label.want.kill (Sh.ite h0.label.want.want.push (Sh.ite h0.need.want.push (Sh.ite ?_ (Sh.ite h0.need.push (Sh.ite h0.need.need.want h0)))))
            unfold localR
            exact Sh.ite (Sh.ite h0.need h0.need.want) (Sh.ite h0.need h0.need.want).push
          · unfold accessR
            exact Sh.ite h0.need.need.want h0.need.need.want.push
          · exact (Sh.ite h0.need h0.need.want).push
/-- Two stacks of the same, for two results. -/
def Same2 (R1 R2 : List Int) (s1 s2 : Stk) : Prop := s1.vals = s2.vals ∧ ∃ r, s1.cs = ⟨2, R1, 0, false⟩ :: r ∧ s2.cs = ⟨2, R2, 0, false⟩ :: r
/-- .. that are the same below what is dead. -/
def Dead2 (R1 R2 : List Int) (s1 s2 : Stk) : Prop := ∃ p c r1 r2, s1.cs = (⟨2, R1, 0, false⟩ :: p) ++ c :: r1 ∧ s2.cs = (⟨2, R2, 0, false⟩ :: p) ++ c :: r2 ∧ c.dead = true ∧ shp r1 = shp r2 ∧ s1.vals.take c.ht.toNat = s2.vals.take c.ht.toNat
def Sim (R1 R2 : List Int) (s1 s2 : Stk) : Prop := Same2 R1 R2 s1 s2 ∨ Dead2 R1 R2 s1 s2
theorem dead_or (r : List Ctl) : (∀ c ∈ r, c.dead = false) ∨ ∃ p c r', r = p ++ c :: r' ∧ c.dead = true := by
  induction r with
  | nil => exact .inl fun c hc => nomatch hc
  | cons c r ih =>
    cases hd : c.dead with
    | true => exact .inr ⟨[], c, r, rfl, hd⟩
    | false =>
      rcases ih with h | ⟨p, d, r', rfl, h⟩
      · refine .inl fun d hd' => ?_
        rcases List.mem_cons.1 hd' with rfl | hd'
        · exact hd
        · exact h d hd'
      · exact .inr ⟨c :: p, d, r', rfl, h⟩
/-- Nothing is dead, or something is. -/
theorem Sim.cases {R1 R2 : List Int} {s1 s2 : Stk} (h : Sim R1 R2 s1 s2) : (Same2 R1 R2 s1 s2 ∧ NoD s1 ∧ NoD s2) ∨ Dead2 R1 R2 s1 s2 := by
  rcases h with ⟨hv, r, h1, h2⟩ | h
  · rcases dead_or r with hn | ⟨p, c, r', rfl, hd⟩
    · refine .inl ⟨⟨hv, r, h1, h2⟩, fun c hc => ?_, fun c hc => ?_⟩
      · rw [h1] at hc
        rcases List.mem_cons.1 hc with rfl | hc
        · rfl
        · exact hn c hc
      · rw [h2] at hc
        rcases List.mem_cons.1 hc with rfl | hc
        · rfl
        · exact hn c hc
    · exact .inr ⟨p, c, r', r', h1, h2, hd, rfl, by rw [hv]⟩
  · exact .inr h
theorem cls_refl : ∀ r : List Ctl, Cls r r
  | [] => .nil
  | c :: r => .cons ⟨rfl, rfl, rfl, fun h => h⟩ (cls_refl r)
theorem cls_anti {r r' : List Ctl} (h : Cls r r') : Cls r' r → r = r' := by
  induction h with
  | nil => exact fun _ => rfl
  | cons a _ ih =>
    intro h
    cases h with
    | cons b h =>
      rename_i x y l l' _
      obtain ⟨o, f, t, d⟩ := x
      obtain ⟨o', f', t', d'⟩ := y
      obtain ⟨a1, a2, a3, a4⟩ := a
      obtain ⟨_, _, _, b4⟩ := b
      simp only at a1 a2 a3 a4 b4
      subst a1 a2 a3
      rw [ih h]
      have : d = d' := by
        cases d <;> cases d'
        · rfl
        · exact absurd (b4 rfl) (by decide)
        · exact absurd (a4 rfl) (by decide)
        · rfl
      rw [this]
theorem same_up {R1 R2 : List Int} {s1 s2 : Stk} (h : Same2 R1 R2 s1 s2) (h1 : sane s1 = true) (h2 : sane s2 = true) : Up [] R2 false s1 s2 ∧ Up [] R1 false s2 s1 := by
  obtain ⟨hv, r, e1, e2⟩ := h
  exact ⟨⟨hv.symm, ⟨_, _, r, r, e1, e2, ⟨rfl, fun e => by cases e⟩, rfl, ⟨rfl, rfl, fun e => by cases e⟩, cls_refl r⟩, h1, h2⟩, ⟨hv, ⟨_, _, r, r, e2, e1, ⟨rfl, fun e => by cases e⟩, rfl, ⟨rfl, rfl, fun e => by cases e⟩, cls_refl r⟩, h2, h1⟩⟩
/-- Its outermost block is not dead. -/
def Alive (R : List Int) (s : Stk) : Prop := ∃ r, s.cs = ⟨2, R, 0, false⟩ :: r
theorem up_same {R1 R2 : List Int} {t1 t2 : Stk} (h : Up [] R2 false t1 t2) (h' : Up [] R1 false t2 t1) (a1 : Alive R1 t1) (a2 : Alive R2 t2) : Same2 R1 R2 t1 t2 := by
  obtain ⟨r1, e1⟩ := a1
  obtain ⟨r2, e2⟩ := a2
  refine ⟨h.vals.symm, r1, e1, ?_⟩
  obtain ⟨c0, c0', r, r', g1, g2, _, _, _, g6⟩ := h.cs
  obtain ⟨d0, d0', q, q', k1, k2, _, _, _, k6⟩ := h'.cs
  rw [e1] at g1 k2
  rw [e2] at g2 k1
  rw [List.nil_append] at g2 k2
  injection g1 with _ g1
  injection g2 with _ g2
  injection k1 with _ k1
  injection k2 with _ k2
  subst g1 g2 k1 k2
  rw [e2, cls_anti g6 k6]
/-- What is only wanted of. -/
def WP (s : Stk) (x : Rs) : Prop := ∀ t, x = .ok t → t.cs = s.cs ∧ t.vals <+: s.vals ∧ sane t = true
theorem WP.of {s : Stk} (h : sane s = true) : WP s (.ok s) := fun t ht => by
  injection ht with ht
  subst ht
  exact ⟨rfl, List.prefix_refl _, h⟩
theorem WP.want {s : Stk} {x : Rs} {l : List Int} (h : WP s x) : WP s (wantR l x) := fun t ht => by
  have hs := (OkS.want (l := l) (fun u hu => (h u hu).2.2)) t ht
  obtain ⟨u, vs, rfl, hw, rfl⟩ := want_at ht
  obtain ⟨h1, h2, _⟩ := h u rfl
  exact ⟨h1, (wantV_pre _ hw).trans h2, hs⟩
theorem WP.label {s : Stk} {x : Rs} {n : Int} (h : WP s x) : WP s (labelR n x) := fun t ht => h t (label_from ht)
theorem WP.need {s : Stk} {x : Rs} {b : Bool} {e : Int} (h : WP s x) : WP s (needR b e x) := fun t ht => h t (need_same ht)
theorem WP.tab {s : Stk} {l : List Int} : ∀ (r : List Int) {x : Rs}, WP s x → WP s (tabR l r x)
  | [], _, h => h
  | _ :: r, _, h => WP.tab r h.label.need
/-- Killed then: all that was wanted of the block is gone. -/
theorem WP.kill {s t : Stk} {x : Rs} (h : WP s x) (ht : killR x = .ok t) : ∃ q c, s.cs = q ++ [c] ∧ t = ⟨s.vals.take c.ht.toNat, q ++ [{ c with dead := true }]⟩ := by
  obtain ⟨u, q, c, rfl, hq, rfl⟩ := kill_from ht
  obtain ⟨h1, h2, h3⟩ := h u rfl
  refine ⟨q, c, h1.symm.trans hq, ?_⟩
  have := sane_ht h3 c (by rw [hq]; simp)
  rw [pre_take h2 (by omega)]
theorem kill_same {R1 R2 : List Int} {s1 s2 t1 t2 : Stk} {x1 x2 : Rs} (h : Same2 R1 R2 s1 s2) (w1 : WP s1 x1) (w2 : WP s2 x2) (h1 : killR x1 = .ok t1) (h2 : killR x2 = .ok t2) (a1 : Alive R1 t1) : Same2 R1 R2 t1 t2 := by
  obtain ⟨hv, r, e1, e2⟩ := h
  obtain ⟨q1, c1, k1, rfl⟩ := w1.kill h1
  obtain ⟨q2, c2, k2, rfl⟩ := w2.kill h2
  rcases last_cases r with rfl | ⟨r', d, rfl⟩
  · exfalso
    obtain ⟨r0, hr0⟩ := a1
    rw [e1] at k1
    have := List.append_inj' (s₁ := []) (t₁ := [_]) k1 rfl
    obtain rfl := this.1
    simp only [List.nil_append, List.cons.injEq] at hr0
    have h3 := congrArg Ctl.dead hr0.1
    exact absurd h3 (by simp)
  · rw [e1, ← List.cons_append] at k1
    rw [e2, ← List.cons_append] at k2
    have j1 := List.append_inj' k1 rfl
    have j2 := List.append_inj' k2 rfl
    have l1 : d = c1 := by simpa using j1.2
    have l2 : d = c2 := by simpa using j2.2
    subst l1 l2
    refine ⟨by simp only [hv], r' ++ [{ d with dead := true }], ?_, ?_⟩
    · simp only [← j1.1, List.cons_append]
    · simp only [← j2.1, List.cons_append]
end Go.Proofs.YtlappkflnlbfcaaGreatDoor.Chk
end
