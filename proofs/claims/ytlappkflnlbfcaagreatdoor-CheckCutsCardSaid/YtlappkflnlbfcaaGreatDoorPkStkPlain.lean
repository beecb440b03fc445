/- StkPlain. -/
import Derived.Test.YtlappkflnlbfcaaGreatDoorPkStkGrown
/- What is sane stays so; what is killed gives what is wanted; what is pushed is wanted: plain. -/
namespace Go.Proofs.YtlappkflnlbfcaaGreatDoor.Stk
open Go.RowKit Row9
set_option maxRecDepth 100000
set_option maxHeartbeats 1000000
set_option linter.unusedVariables false
theorem sgo_append : ∀ (a b : List Ctl) (h : Int), sgo h (a ++ b) = match sgo h a with | none => none | some h' => sgo h' b
  | [], b, h => rfl
  | c :: a, b, h => by
    rw [List.cons_append, sgo, sgo]
    split
    · exact sgo_append a b c.ht
    · rfl
/-- Sane, in parts. -/
theorem sane_iff (s : Stk) : sane s = true ↔ ∃ h, sgo 0 s.cs = some h ∧ h ≤ s.vals.length ∧ s.vals.any noT = false := by
  unfold sane
  cases sgo 0 s.cs with
  | none => simp
  | some h => simp
theorem sgo_last {cs : List Ctl} {c : Ctl} {h : Int} (e : sgo 0 cs = some h) (hc : cs.getLast? = some c) : c.ht = h := (sgo_le cs 0 h e).2.2 c hc
theorem sgo_drop {cs : List Ctl} {h : Int} (e : sgo 0 cs = some h) : ∃ h', sgo 0 cs.dropLast = some h' ∧ h' ≤ h := by
  cases hl : cs.getLast? with
  | none =>
    rw [List.getLast?_eq_none_iff.1 hl] at e ⊢
    exact ⟨h, e, Int.le_refl _⟩
  | some c =>
    obtain ⟨q, rfl⟩ : ∃ q, cs = q ++ [c] := List.getLast?_eq_some_iff.1 hl
    rw [sgo_append] at e
    rw [List.dropLast_concat]
    cases hq : sgo 0 q with
    | none => rw [hq] at e; cases e
    | some h' =>
      rw [hq] at e
      exact ⟨h', rfl, (sgo_le [c] h' h e).1⟩
theorem any_take {l : List Int} {n : Nat} (h : l.any noT = false) : (l.take n).any noT = false := by
  rw [List.any_eq_false] at h ⊢
  exact fun x hx => h x (List.mem_of_mem_take hx)
theorem popV_sane {cs : List Ctl} {vals vs : List Int} {v : Int} (hs : sane ⟨vals, cs⟩ = true) (h : popV cs.getLast? vals = some (vs, v)) : sane ⟨vs, cs⟩ = true := by
  rw [sane_iff] at hs ⊢
  obtain ⟨h0, e, hl, ha⟩ := hs
  refine ⟨h0, e, ?_⟩
  unfold popV at h
  split at h
  · cases h
  · rename_i c hc
    have hh := sgo_last e hc
    split at h
    · simp only [Option.some.injEq, Prod.mk.injEq] at h
      rw [← h.1]
      show h0 ≤ (vals.dropLast.length : Int) ∧ vals.dropLast.any noT = false
      rw [List.dropLast_eq_take]
      refine ⟨?_, any_take ha⟩
      rw [List.length_take]
      omega
    · split at h
      · simp only [Option.some.injEq, Prod.mk.injEq] at h
        rw [← h.1]
        exact ⟨hl, ha⟩
      · cases h
theorem wantV_sane : ∀ (r : List Int) {cs : List Ctl} {vals vs : List Int}, sane ⟨vals, cs⟩ = true → wantV cs.getLast? vals r = some vs → sane ⟨vs, cs⟩ = true
  | [], cs, vals, vs, hs, h => by
    obtain rfl : vals = vs := Option.some.inj h
    exact hs
  | x :: r, cs, vals, vs, hs, h => by
    rw [wantV] at h
    split at h
    · cases h
    · rename_i vs1 v hp
      split at h
      · exact wantV_sane r (popV_sane hs hp) h
      · cases h
theorem made_sane {s s' : Stk} {e0 : Int} (h : (made s e0 s').2 = 0) : sane s = true ∧ e0 = 0 ∧ (made s e0 s').1 = s' := by
  unfold made at h ⊢
  split
  · rename_i hs
    rw [if_pos hs] at h
    exact absurd h (by decide)
  · rename_i hs
    rw [if_neg hs] at h
    split
    · rename_i he
      exact ⟨by simpa using hs, he, rfl⟩
    · rename_i he
      rw [if_neg he] at h
      exact absurd h he
theorem act_sane (s : Stk) (a : Act9) (hs : sane s = true) (h : (act s a).2 = 0) : sane (act s a).1 = true := by
  have hs' := hs
  rw [sane_iff] at hs'
  obtain ⟨h0, e, hl, ha⟩ := hs'
  unfold act at h ⊢
  split
  · rename_i hw
    rw [if_pos hw, pushS_is] at h
    rw [pushS_is]
    obtain ⟨h1, h2, h3⟩ := made_sane h
    rw [h3, sane_iff]
    have hp : a.L.any noT = false := by
      unfold pe at h2
      cases hq : a.L.any noT with
      | false => rfl
      | true => rw [hq] at h2; exact absurd h2 (by decide)
    exact ⟨h0, e, by show h0 ≤ ((s.vals ++ a.L).length : Int); rw [List.length_append]; omega, by show (s.vals ++ a.L).any noT = false; rw [List.any_append, ha, hp]; rfl⟩
  · rename_i hw
    rw [if_neg hw] at h
    split
    · rename_i hw
      rw [if_pos hw, popS_is] at h
      rw [popS_is]
      unfold popMade at h ⊢
      rw [if_neg (by rw [hs]; decide)] at h ⊢
      cases hp : popV s.cs.getLast? s.vals with
      | none => rw [hp] at h; exact absurd (show (5 : Int) = 0 from h) (by decide)
      | some pr =>
        obtain ⟨vs, v⟩ := pr
        exact popV_sane (vals := s.vals) (cs := s.cs) hs hp
    · rename_i hw
      rw [if_neg hw] at h
      split
      · rename_i hw
        rw [if_pos hw, wantS_is] at h
        rw [wantS_is]
        obtain ⟨h1, h2, h3⟩ := made_sane h
        rw [h3]
        cases hq : wantV s.cs.getLast? s.vals a.L.reverse with
        | none => rw [hq] at h2; exact absurd h2 (by decide)
        | some vs => exact wantV_sane _ (vals := s.vals) (cs := s.cs) hs hq
      · rename_i hw
        rw [if_neg hw] at h
        split
        · rename_i hw
          rw [if_pos hw, openS_is] at h
          rw [openS_is]
          obtain ⟨h1, h2, h3⟩ := made_sane h
          rw [h3, sane_iff]
          have hp : mayE a.L = true := by
            unfold oe at h2
            cases hq : mayE a.L with
            | true => rfl
            | false => rw [hq] at h2; exact absurd h2 (by decide)
          refine ⟨s.vals.length, ?_, Int.le_refl _, ha⟩
          show sgo 0 (s.cs ++ [⟨a.op, a.L, s.vals.length, false⟩]) = _
          rw [sgo_append, e]
          show sgo h0 [⟨a.op, a.L, s.vals.length, false⟩] = _
          rw [sgo, if_pos (by rw [hp]; simp; exact hl)]
          rfl
        · rename_i hw
          rw [if_neg hw] at h
          split
          · rename_i hw
            rw [if_pos hw, closeS_is] at h
            rw [closeS_is]
            unfold closeMade at h ⊢
            rw [if_neg (by rw [hs]; decide)] at h ⊢
            cases hq : closeV s.vals s.cs with
            | none => rw [hq] at h; exact absurd (show (5 : Int) = 0 from h) (by decide)
            | some pr =>
              obtain ⟨vs, c⟩ := pr
              unfold closeV at hq
              split at hq
              · cases hq
              · rename_i c' hc
                split at hq
                · cases hq
                · rename_i vs' hw'
                  split at hq
                  · cases hq
                  · rename_i hlen
                    simp only [Option.some.injEq, Prod.mk.injEq] at hq
                    obtain ⟨rfl, rfl⟩ := hq
                    rw [← hc] at hw'
                    have hsv := wantV_sane _ (vals := s.vals) (cs := s.cs) hs hw'
                    rw [sane_iff] at hsv ⊢
                    obtain ⟨h1, e1, hl1, ha1⟩ := hsv
                    obtain ⟨h2, e2, hle⟩ := sgo_drop e1
                    exact ⟨h2, e2, Int.le_trans hle hl1, ha1⟩
          · rename_i hw
            rw [if_neg hw] at h
            split
            · rename_i hw
              rw [if_pos hw, killS_is] at h
              rw [killS_is]
              obtain ⟨h1, h2, h3⟩ := made_sane h
              rw [h3]
              cases hc : s.cs.getLast? with
              | none => unfold ke at h2; rw [hc] at h2; exact absurd h2 (by decide)
              | some c =>
                obtain ⟨q, hq⟩ : ∃ q, s.cs = q ++ [c] := List.getLast?_eq_some_iff.1 hc
                have hh := sgo_last e hc
                have hz := (sane_facts hs).1 c (by rw [hq]; simp)
                rw [sane_iff]
                refine ⟨h0, ?_, ?_, any_take ha⟩
                · show sgo 0 (s.cs.dropLast ++ kd s.cs) = _
                  rw [hq] at e ⊢
                  unfold kd
                  rw [List.getLast?_concat, List.dropLast_concat, sgo_append]
                  rw [sgo_append] at e
                  cases hqq : sgo 0 q with
                  | none => rw [hqq] at e; cases e
                  | some h' => rw [hqq] at e; exact e
                · show h0 ≤ ((s.vals.take (kh s.cs)).length : Int)
                  unfold kh
                  rw [hc, List.length_take]
                  simp only
                  omega
            · rename_i hw
              rw [if_neg hw] at h
              exact absurd (show (1 : Int) = 0 from h) (by decide)
theorem killS_last {s : Stk} {q : List Ctl} {c : Ctl} (hs : sane s = true) (h : s.cs = q ++ [c]) : killS s = (⟨s.vals.take c.ht.toNat, q ++ [{ c with dead := true }]⟩, 0) := by
  unfold killS
  rw [if_neg (by rw [hs]; decide), h, List.getLast?_concat]
  simp
theorem kill_sane {s : Stk} {q : List Ctl} {c : Ctl} (hs : sane s = true) (h : s.cs = q ++ [c]) : sane ⟨s.vals.take c.ht.toNat, q ++ [{ c with dead := true }]⟩ = true := by
  have h1 := act_sane s ⟨7, 0, []⟩ hs (by rw [act_kill rfl, killS_last hs h])
  rw [act_kill rfl, killS_last hs h] at h1
  exact h1
theorem push_ok {s : Stk} {m : List Int} (hs : sane s = true) (hm : m.any noT = false) : pushS s m = (⟨s.vals ++ m, s.cs⟩, 0) := by
  unfold pushS
  rw [if_neg (by rw [hs]; decide), if_neg (by rw [hm]; decide)]
theorem push_no {s : Stk} {m : List Int} (hs : sane s = true) (hm : m.any noT = true) : pushS s m = (none_, 1) := by
  unfold pushS
  rw [if_neg (by rw [hs]; decide), if_pos hm]
theorem push_sane {s : Stk} {m : List Int} (hs : sane s = true) (hm : m.any noT = false) : sane ⟨s.vals ++ m, s.cs⟩ = true := by
  have h1 := act_sane s ⟨0, 0, m⟩ hs (by rw [act_push (.inl rfl), push_ok hs hm])
  rw [act_push (.inl rfl), push_ok hs hm] at h1
  exact h1
theorem open_ok {s : Stk} {op : Int} {l : List Int} (hs : sane s = true) (hl : mayE l = true) : openS s op l = (⟨s.vals, s.cs ++ [⟨op, l, s.vals.length, false⟩]⟩, 0) := by
  unfold openS
  rw [if_neg (by rw [hs]; decide), if_neg (by rw [hl]; decide)]
theorem open_sane {s : Stk} {op : Int} {l : List Int} (hs : sane s = true) (hl : mayE l = true) : sane ⟨s.vals, s.cs ++ [⟨op, l, s.vals.length, false⟩]⟩ = true := by
  have h1 := act_sane s ⟨5, op, l⟩ hs (by rw [act_open rfl, open_ok hs hl])
  rw [act_open rfl, open_ok hs hl] at h1
  exact h1
end Go.Proofs.YtlappkflnlbfcaaGreatDoor.Stk
