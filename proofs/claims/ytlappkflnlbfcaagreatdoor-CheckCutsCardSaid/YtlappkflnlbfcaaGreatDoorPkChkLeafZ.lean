/- ChkCutR, ChkLeafM, ChkLeafN, ChkLive, ChkLive2, ChkLive3, ChkLeafZ. -/
import Derived.Test.YtlappkflnlbfcaaGreatDoorPkChkStepP
section
/- CheckCuts, plain. -/
namespace Go.Proofs.YtlappkflnlbfcaaGreatDoor.Chk
open Go.RowKit Row9 Stk
set_option maxRecDepth 100000
set_option maxHeartbeats 1000000
set_option linter.unusedVariables false
theorem path_ok {E : EnvP} {l : List Ins.Ins} (h : (pathR E l).2 = 0) : Bod.Nested (opsP l) ∧ saneE E = true ∧ pathR E l = pathGo E l (s0 E) ∧ (pathR E l).1.length = l.length + 1 := by
  unfold pathR at h ⊢
  split at h
  · exact absurd h (by decide)
  · rename_i hd
    rw [if_neg hd]
    split at h
    · exact absurd h (by decide)
    · rename_i hs
      rw [if_neg hs]
      refine ⟨?_, by simpa using hs, rfl, go_all h⟩
      cases hq : Bod.dM (opsP l) with
      | none => exact absurd hq hd
      | some ms => exact Bod.dM_nested hq
theorem path_of {E : EnvP} {l : List Ins.Ins} (h1 : Bod.Nested (opsP l)) (h2 : saneE E = true) : pathR E l = pathGo E l (s0 E) := by
  obtain ⟨ms, hm⟩ := Bod.dM_some h1
  unfold pathR
  rw [if_neg (by rw [hm]; simp), if_neg (by rw [h2]; simp)]
theorem opsP_take (l : List Ins.Ins) (k : Nat) : opsP (l.take k) = (opsP l).take k := by simp [opsP, List.map_take]
theorem opsP_len (l : List Ins.Ins) : (opsP l).length = l.length := by simp [opsP]
/-- A path of a body cut where nothing is open. -/
theorem path_take {E : EnvP} {l : List Ins.Ins} (h : (pathR E l).2 = 0) {k : Nat} (hk : k ≤ l.length) (hd : k < l.length → (Bod.aroundD (opsP l) k).length = 0 ∧ (opsP l).getD k 0 ≠ 5 ∧ (opsP l).getD k 0 ≠ 11) : pathR E (l.take k) = ((pathR E l).1.take (k + 1), 0) := by
  obtain ⟨h1, h2, h3, h4⟩ := path_ok h
  have hn := cut_nested h1 (k := k) (by rw [opsP_len]; exact hk) (by rw [opsP_len]; exact hd)
  rw [← opsP_take] at hn
  rw [path_of hn h2, h3]
  rw [h3] at h
  exact go_cut l (s0 E) k h hk
/-- Each of its steps is a step. -/
theorem path_step {E : EnvP} {l : List Ins.Ins} (h : (pathR E l).2 = 0) {k : Nat} {i : Ins.Ins} (hi : l[k]? = some i) : ∃ a b, (pathR E l).1[k]? = some a ∧ (pathR E l).1[k + 1]? = some b ∧ sane a = true ∧ stepR E i a = .ok b := by
  obtain ⟨h1, h2, h3, h4⟩ := path_ok h
  rw [h3] at h ⊢
  obtain ⟨a, b, e1, e2, e3⟩ := go_step l (s0 E) k i h hi
  have hs := go_sane l (s0 E) (s0_sane h2) a (List.mem_of_getElem? e1)
  exact ⟨a, b, e1, e2, hs, by rw [stepR_sane hs]; exact e3⟩
/-- How big a path's stacks are. -/
theorem go_bd {E : EnvP} (hE : FnBd E) : ∀ (l : List Ins.Ins) (s : Stk) (n : Nat), Bd (.ok s) n → ∀ t ∈ (pathGo E l s).1, Bd (.ok t) (n + l.length * 1001)
  | [], s, n, h, t, ht => by
    rw [List.mem_singleton.1 ht]
    exact h.mono (by omega)
  | i :: l, s, n, h, t, ht => by
    unfold pathGo at ht
    cases hx : instrR E i s with
    | ok u =>
      rw [hx] at ht
      rcases List.mem_cons.1 ht with rfl | ht
      · exact h.mono (by omega)
      · have hu : Bd (.ok u) (n + 1001) := by rw [← hx]; exact Bd.instr hE h
        exact (go_bd hE l u (n + 1001) hu t ht).mono (by rw [List.length_cons, Nat.add_mul]; omega)
    | er e =>
      rw [hx] at ht
      rw [List.mem_singleton.1 ht]
      exact h.mono (by omega)
end Go.Proofs.YtlappkflnlbfcaaGreatDoor.Chk
end

section
/- How much is open along a path: plain. -/
namespace Go.Proofs.YtlappkflnlbfcaaGreatDoor.Chk
open Go.RowKit Row9 Stk
set_option maxRecDepth 100000
set_option maxHeartbeats 1000000
set_option linter.unusedVariables false
/-- So much is open. -/
def Ln (x : Rs) (n : Nat) : Prop := ∀ s, x = .ok s → s.cs.length = n
theorem Ln.of {x : Rs} {f : Stk → Stk × Int} {n m : Nat} (h : Ln x n) (hf : ∀ t, t.cs.length = n → (f t).2 = 0 → (f t).1.cs.length = m) : Ln (x.bind fun s => ofP (f s)) m := fun s hs => by
  obtain ⟨t, rfl, h2⟩ := bind_ok hs
  obtain ⟨h3, rfl⟩ := ofP_ok h2
  exact hf t (h t rfl) h3
theorem Ln.push {x : Rs} {l : List Int} {n : Nat} (h : Ln x n) : Ln (pushR l x) n := h.of (f := fun s => pushS s l) fun t ht h0 => by
  simp only [pushS] at h0 ⊢
  split at h0
  · exact absurd h0 (by decide)
  · rename_i h1
    rw [if_neg h1]
    split at h0
    · exact absurd h0 (by decide)
    · rename_i h2
      rw [if_neg h2]
      exact ht
theorem Ln.want {x : Rs} {l : List Int} {n : Nat} (h : Ln x n) : Ln (wantR l x) n := h.of (f := fun s => wantS s l) fun t ht h0 => by
  simp only [wantS] at h0 ⊢
  split at h0
  · exact absurd h0 (by decide)
  · rename_i h1
    rw [if_neg h1]
    cases hw : wantV t.cs.getLast? t.vals l.reverse with
    | none => rw [hw] at h0; exact absurd (show (5 : Int) = 0 from h0) (by decide)
    | some vs => exact ht
theorem Ln.pop {x : Rs} {n : Nat} (h : Ln x n) : Ln (popR x) n := h.of (f := fun s => ((popS s).1, (popS s).2.2)) fun t ht h0 => by
  simp only [popS] at h0 ⊢
  split at h0
  · exact absurd h0 (by decide)
  · rename_i h1
    rw [if_neg h1]
    cases hw : popV t.cs.getLast? t.vals with
    | none => rw [hw] at h0; exact absurd (show (5 : Int) = 0 from h0) (by decide)
    | some p => exact ht
theorem Ln.open {x : Rs} {op : Int} {l : List Int} {n : Nat} (h : Ln x n) : Ln (openR op l x) (n + 1) := h.of (f := fun s => openS s op l) fun t ht h0 => by
  simp only [openS] at h0 ⊢
  split at h0
  · exact absurd h0 (by decide)
  · rename_i h1
    rw [if_neg h1]
    split at h0
    · exact absurd h0 (by decide)
    · rename_i h2
      rw [if_neg h2]
      simp only [List.length_append, List.length_singleton, ht]
theorem Ln.kill {x : Rs} {n : Nat} (h : Ln x n) : Ln (killR x) n := h.of (f := fun s => killS s) fun t ht h0 => by
  simp only [killS] at h0 ⊢
  split at h0
  · exact absurd h0 (by decide)
  · rename_i h1
    rw [if_neg h1]
    cases hc : t.cs.getLast? with
    | none => rw [hc] at h0; exact absurd (show (5 : Int) = 0 from h0) (by decide)
    | some c =>
      have : t.cs ≠ [] := by intro e; rw [e] at hc; cases hc
      have := List.length_pos_iff.2 this
      simp only [List.length_append, List.length_dropLast, List.length_singleton]
      omega
theorem Ln.close {x : Rs} {n : Nat} (h : Ln x (n + 1)) : Ln (closeR x) n := h.of (f := fun s => ((closeS s).1, (closeS s).2.2)) fun t ht h0 => by
  simp only [closeS] at h0 ⊢
  split at h0
  · exact absurd h0 (by decide)
  · rename_i h1
    rw [if_neg h1]
    cases hc : t.cs.getLast? with
    | none => rw [hc] at h0; exact absurd (show (5 : Int) = 0 from h0) (by decide)
    | some c =>
      rw [hc] at h0
      simp only at h0 ⊢
      cases hw : wantV (some c) t.vals c.fin.reverse with
      | none => rw [hw] at h0; exact absurd (show (5 : Int) = 0 from h0) (by decide)
      | some vs =>
        rw [hw] at h0
        simp only at h0 ⊢
        split at h0
        · exact absurd (show (5 : Int) = 0 from h0) (by decide)
        · rename_i h2
          rw [if_neg h2, List.length_dropLast, ht]
          rfl
theorem Ln.need {x : Rs} {b : Bool} {e : Int} {n : Nat} (h : Ln x n) : Ln (needR b e x) n := fun s hs => by
  obtain ⟨t, rfl, h2⟩ := bind_ok hs
  split at h2
  · injection h2 with h2
    subst h2
    exact h t rfl
  · cases h2
theorem Ln.label {x : Rs} {i : Int} {n : Nat} (h : Ln x n) : Ln (labelR i x) n := fun s hs => by
  obtain ⟨t, rfl, h2⟩ := bind_ok hs
  split at h2
  · injection h2 with h2
    subst h2
    exact h t rfl
  · cases h2
theorem Ln.ite {c : Prop} [Decidable c] {x y : Rs} {n : Nat} (h1 : Ln x n) (h2 : Ln y n) : Ln (if c then x else y) n := by
  split
  · exact h1
  · exact h2
theorem Ln.tab {l : List Int} {n : Nat} : ∀ (r : List Int) {x : Rs}, Ln x n → Ln (tabR l r x) n
  | [], _, h => h
  | _ :: r, _, h => Ln.tab r h.label.need
/-- What needs two open: at least two are. -/
theorem need_pos {s : Stk} {b : Bool} {e : Int} {n : Nat} (hb : b = true → n + 1 = s.cs.length) : Ln (needR b e (.ok s)) (n + 1) := fun t ht => by
  obtain ⟨u, hu, h2⟩ := bind_ok ht
  injection hu with hu
  subst hu
  split at h2
  · rename_i hbt
    injection h2 with h2
    subst h2
    exact (hb hbt).symm
  · cases h2
/-- How much is open behind an instruction. -/
theorem take_len {E : EnvP} {i : Ins.Ins} {s t : Stk} (h : takeR E i s = .ok t) : t.cs.length = if Bod.opn i.op = true then s.cs.length + 1 else if i.op = 11 then s.cs.length - 1 else s.cs.length := by
  have h0 : Ln (.ok s) s.cs.length := fun u hu => by injection hu with hu; rw [← hu]
  by_cases ho : Bod.opn i.op = true
  · rw [if_pos ho]
    have hk : Ins.kd i.op = 2 := by
      unfold Bod.opn at ho
      rw [Bool.and_eq_true, decide_eq_true_eq, decide_eq_true_eq] at ho
      unfold Ins.kd
      rw [if_pos ho]
    unfold takeR at h
    rw [if_neg (by omega), if_pos hk] at h
    exact (Ln.ite h0.want h0).open t h
  · rw [if_neg ho]
    have hk : Ins.kd i.op ≠ 2 := by
      intro e
      apply ho
      unfold Bod.opn
      unfold Ins.kd at e
      split at e
      · rename_i hq
        simp [hq.1, hq.2]
      · exfalso
        repeat' (first | (split at e; omega) | omega)
    by_cases h11 : i.op = 11
    · rw [if_pos h11]
      have hk1 : Ins.kd i.op = 1 := by rw [h11]; decide
      unfold takeR at h
      rw [if_pos hk1] at h
      unfold plainR at h
      rw [h11, if_neg (by decide), if_neg (by decide), if_neg (by decide), if_pos rfl] at h
      by_cases h2 : 2 ≤ s.cs.length
      · obtain ⟨m, hm⟩ : ∃ m, s.cs.length = m + 1 := ⟨s.cs.length - 1, by omega⟩
        have := (Ln.push (l := (closedC (needR (decide (2 ≤ s.cs.length)) 5 (.ok s))).fin) (Ln.need (b := ((closedC (needR (decide (2 ≤ s.cs.length)) 5 (.ok s))).op != 4) || ((closedC (needR (decide (2 ≤ s.cs.length)) 5 (.ok s))).fin.length == 0)) (e := 5) (Ln.close (n := m) (need_pos (b := decide (2 ≤ s.cs.length)) (e := 5) fun _ => hm.symm)))) t h
        rw [this, hm]
        rfl
      · exfalso
        unfold endR at h
        simp only [needR, Rs.bind, h2, decide_false, Bool.false_eq_true, if_false, closeR, pushR] at h
        cases h
    · rw [if_neg h11]
      unfold takeR at h
      by_cases hk1 : Ins.kd i.op = 1
      · rw [if_pos hk1] at h
        refine (?_ : Ln (plainR E i.op s) s.cs.length) t h
        unfold plainR
        refine Ln.ite h0.kill (Ln.ite h0.push (Ln.ite ?_ ?_))
        · unfold turnR
          by_cases hp : 0 < s.cs.length
          · obtain ⟨m, hm⟩ : ∃ m, s.cs.length = m + 1 := ⟨s.cs.length - 1, by omega⟩
            have := Ln.open (op := 5) (l := (closedC (needR (decide (0 < s.cs.length) && (lastOp s == 4)) 5 (.ok s))).fin) (Ln.close (n := m) (need_pos (s := s) (b := decide (0 < s.cs.length) && (lastOp s == 4)) (e := 5) fun _ => hm.symm))
            rw [← hm] at this
            exact this
          · intro u hu
            simp only [needR, Rs.bind, hp, decide_false, Bool.false_and, Bool.false_eq_true, if_false, closeR, openR] at hu
            cases hu
        · rw [if_neg h11]
          exact Ln.ite h0.want.kill (Ln.ite h0.pop (Ln.ite h0.want.pop.pop.need.push h0.want.push))
      rw [if_neg hk1, if_neg hk] at h
      refine (?_ : Ln (if Ins.kd i.op = 3 then indexR E i.op i.A s else if Ins.kd i.op = 4 then tableR i.A i.L s else if Ins.kd i.op = 5 then callIR E i.A s else if Ins.kd i.op = 6 then accessR E i.op i.A s else if Ins.kd i.op = 7 then memR E i.op s else if Ins.kd i.op = 8 then pushR [127] (.ok s) else pushR [126] (.ok s)) s.cs.length) t h
      refine Ln.ite ?_ (Ln.ite (Ln.tab _ h0.label).want.want.kill (Ln.ite h0.need.need.want.want.push (Ln.ite ?_ (Ln.ite ?_ (Ln.ite h0.push h0.push)))))
      · unfold indexR
        refine Ln.ite h0.label.want.kill (Ln.ite h0.label.want.want.push (Ln.ite h0.need.want.push (Ln.ite ?_ (Ln.ite h0.need.push (Ln.ite h0.need.need.want h0)))))
        unfold localR
        exact Ln.ite (Ln.ite h0.need h0.need.want) (Ln.ite h0.need h0.need.want).push
      · unfold accessR
        exact Ln.ite h0.need.need.want h0.need.need.want.push
      · exact (Ln.ite h0.need h0.need.want).push
end Go.Proofs.YtlappkflnlbfcaaGreatDoor.Chk
end

section
/- As much is open as an instruction stands in, and one more: plain. -/
namespace Go.Proofs.YtlappkflnlbfcaaGreatDoor.Chk
open Go.RowKit Row9 Stk
set_option maxRecDepth 100000
set_option maxHeartbeats 1000000
set_option linter.unusedVariables false
theorem instr_len {E : EnvP} {i : Ins.Ins} {s t : Stk} (h : instrR E i s = .ok t) : t.cs.length = if Bod.opn i.op = true then s.cs.length + 1 else if i.op = 11 then s.cs.length - 1 else s.cs.length := by
  unfold instrR at h
  split at h
  · cases h
  · exact take_len h
theorem step_len {p : Nat} {op : Int} {S S' : Bod.Stk} (h : Bod.stepS p op S = some S') : S'.length = (if Bod.opn op = true then S.length + 1 else if op = 11 then S.length - 1 else S.length) ∧ (op = 5 ∨ op = 11 → 0 < S.length) := by
  unfold Bod.stepS at h
  by_cases ho : Bod.opn op = true
  · rw [if_pos ho] at h ⊢
    injection h with h
    subst h
    exact ⟨rfl, fun hq => absurd hq (by have := Bod.opn_not ho; omega)⟩
  · rw [if_neg ho] at h ⊢
    by_cases h5 : op = 5
    · rw [if_pos h5] at h
      rw [if_neg (by omega)]
      match S, h with
      | (k, true, o) :: S2, h =>
        simp only at h
        split at h
        · injection h with h
          subst h
          exact ⟨rfl, fun _ => by simp⟩
        · cases h
      | (k, false, o) :: S2, h => cases h
      | [], h => cases h
    · rw [if_neg h5] at h
      by_cases h11 : op = 11
      · rw [if_pos h11] at h ⊢
        match S, h with
        | x :: S2, h =>
          injection h with h
          subst h
          exact ⟨rfl, fun _ => by simp⟩
        | [], h => cases h
      · rw [if_neg h11] at h ⊢
        injection h with h
        subst h
        exact ⟨rfl, fun hq => by omega⟩
theorem opsP_get {l : List Ins.Ins} {k : Nat} {i : Ins.Ins} (h : l[k]? = some i) : (opsP l).getD k 0 = i.op := by
  unfold opsP
  rw [List.getD_eq_getElem?_getD, List.getElem?_map, h]
  rfl
/-- Along a path. -/
theorem path_open {E : EnvP} {l : List Ins.Ins} (h : (pathR E l).2 = 0) : ∀ k, k ≤ l.length → ∃ a, (pathR E l).1[k]? = some a ∧ a.cs.length = (Bod.sAt (opsP l) k).length + 1
  | 0, _ => by
    obtain ⟨h1, h2, h3, h4⟩ := path_ok h
    refine ⟨s0 E, ?_, ?_⟩
    · rw [h3]
      cases l with
      | nil => rfl
      | cons i l =>
        unfold pathGo
        cases instrR E i (s0 E) <;> rfl
    · have := Bod.sAt_st h1 (Nat.zero_le _)
      have h0 : Bod.st (opsP l) 0 = some [] := rfl
      rw [h0] at this
      rw [← Option.some.inj this]
      rfl
  | k + 1, hk => by
    obtain ⟨h1, h2, h3, h4⟩ := path_ok h
    obtain ⟨i, hi⟩ : ∃ i, l[k]? = some i := ⟨_, List.getElem?_eq_getElem (by omega)⟩
    obtain ⟨a, ha, hl⟩ := path_open h k (by omega)
    obtain ⟨a', b, e1, e2, e3, e4⟩ := path_step h hi
    obtain rfl : a = a' := Option.some.inj (ha.symm.trans e1)
    rw [stepR_sane e3] at e4
    refine ⟨b, e2, ?_⟩
    have hs1 := Bod.sAt_st h1 (p := k) (by rw [opsP_len]; omega)
    have hs2 := Bod.sAt_st h1 (p := k + 1) (by rw [opsP_len]; exact hk)
    have hst := (step_len (Bod.st_succ hs1 hs2))
    rw [opsP_get hi] at hst
    rw [instr_len e4, hl, hst.1]
    split
    · rfl
    · split
      · rename_i h11
        have := hst.2 (.inr h11)
        omega
      · rfl
/-- As CheckLeaves has it. -/
theorem path_depth {E : EnvP} {l : List Ins.Ins} (h : (pathR E l).2 = 0) {k : Nat} {i : Ins.Ins} (hi : l[k]? = some i) : ∃ a, (pathR E l).1[k]? = some a ∧ sane a = true ∧ a.cs.length = (Bod.aroundD (opsP l) k).length + 1 + if i.op = 5 ∨ i.op = 11 then 1 else 0 := by
  obtain ⟨h1, h2, h3, h4⟩ := path_ok h
  have hk := (List.getElem?_eq_some_iff.1 hi).1
  obtain ⟨a, ha, hl⟩ := path_open h k (by omega)
  obtain ⟨a', b, e1, e2, e3, e4⟩ := path_step h hi
  obtain rfl : a = a' := Option.some.inj (ha.symm.trans e1)
  refine ⟨a, ha, e3, ?_⟩
  have hs1 := Bod.sAt_st h1 (p := k) (by rw [opsP_len]; omega)
  have hs2 := Bod.sAt_st h1 (p := k + 1) (by rw [opsP_len]; exact hk)
  have hst := (step_len (Bod.st_succ hs1 hs2))
  rw [opsP_get hi] at hst
  rw [hl]
  unfold Bod.aroundD Bod.sIn
  rw [opsP_get hi, List.length_map]
  split
  · rename_i hq
    have := hst.2 hq
    rw [List.length_tail]
    omega
  · omega
end Go.Proofs.YtlappkflnlbfcaaGreatDoor.Chk
end

section
/- Values that are come to are known: plain. -/
namespace Go.Proofs.YtlappkflnlbfcaaGreatDoor.Chk
open Go.RowKit Row9 Stk
set_option maxRecDepth 100000
set_option maxHeartbeats 1000000
set_option linter.unusedVariables false
/-- Below what is dead, values are known. -/
def Live (s : Stk) : Prop := ∀ (j : Nat) (v : Int), s.vals[j]? = some v → (∀ c ∈ s.cs, c.dead = true → (j : Int) < c.ht) → v ≠ 0
/-- Nothing is dead. -/
def NoD (s : Stk) : Prop := ∀ c ∈ s.cs, c.dead = false
def LvR (x : Rs) : Prop := ∀ s, x = .ok s → Live s
theorem popV_pre {o : Option Ctl} {vals vs : List Int} {v : Int} (h : popV o vals = some (vs, v)) : vs <+: vals := by
  unfold popV at h
  split at h
  · cases h
  · split at h
    · simp only [Option.some.injEq, Prod.mk.injEq] at h
      rw [← h.1]
      exact List.dropLast_prefix _
    · split at h
      · simp only [Option.some.injEq, Prod.mk.injEq] at h
        rw [← h.1]
        exact List.prefix_refl _
      · cases h
theorem wantV_pre {o : Option Ctl} : ∀ (r : List Int) {vals vs : List Int}, wantV o vals r = some vs → vs <+: vals
  | [], vals, vs, h => by
    obtain rfl : vals = vs := Option.some.inj h
    exact List.prefix_refl _
  | x :: r, vals, vs, h => by
    rw [wantV] at h
    split at h
    · cases h
    · rename_i vs1 v hp
      split at h
      · exact (wantV_pre r h).trans (popV_pre hp)
      · cases h
theorem Live.pre {s : Stk} (h : Live s) {vs : List Int} (hv : vs <+: s.vals) : Live ⟨vs, s.cs⟩ := fun j v hj hd => by
  obtain ⟨t, ht⟩ := hv
  refine h j v ?_ hd
  have hjl := (List.getElem?_eq_some_iff.1 hj).1
  rw [← ht, List.getElem?_append_left hjl]
  exact hj
theorem LvR.want {x : Rs} {l : List Int} (h : LvR x) : LvR (wantR l x) := fun s hs => by
  obtain ⟨t, rfl, h2⟩ := bind_ok hs
  obtain ⟨h0, rfl⟩ := ofP_ok h2
  simp only [wantS] at h0 ⊢
  split at h0
  · exact absurd h0 (by decide)
  · rename_i h1
    rw [if_neg h1]
    cases hw : wantV t.cs.getLast? t.vals l.reverse with
    | none => rw [hw] at h0; exact absurd (show (5 : Int) = 0 from h0) (by decide)
    | some vs => exact (h t rfl).pre (wantV_pre _ hw)
theorem LvR.pop {x : Rs} (h : LvR x) : LvR (popR x) := fun s hs => by
  obtain ⟨t, rfl, h2⟩ := bind_ok hs
  obtain ⟨h0, rfl⟩ := ofP_ok h2
  simp only [popS] at h0 ⊢
  split at h0
  · exact absurd h0 (by decide)
  · rename_i h1
    rw [if_neg h1]
    cases hw : popV t.cs.getLast? t.vals with
    | none => rw [hw] at h0; exact absurd (show (5 : Int) = 0 from h0) (by decide)
    | some p => exact (h t rfl).pre (popV_pre hw)
theorem sgo_ht : ∀ (cs : List Ctl) (h z : Int), sgo h cs = some z → h ≤ z ∧ ∀ c ∈ cs, h ≤ c.ht ∧ c.ht ≤ z
  | [], h, z, e => ⟨by obtain rfl : h = z := Option.some.inj e; exact Int.le_refl _, fun c hc => nomatch hc⟩
  | c :: r, h, z, e => by
    rw [sgo] at e
    split at e
    · rename_i hq
      rw [Bool.and_eq_true, decide_eq_true_eq] at hq
      obtain ⟨h1, h2⟩ := sgo_ht r c.ht z e
      refine ⟨Int.le_trans hq.2 h1, fun d hd => ?_⟩
      rcases List.mem_cons.1 hd with rfl | hd
      · exact ⟨hq.2, h1⟩
      · exact ⟨Int.le_trans hq.2 (h2 d hd).1, (h2 d hd).2⟩
    · cases e
/-- What is open lies no higher than the values. -/
theorem sane_ht {s : Stk} (h : sane s = true) : ∀ c ∈ s.cs, 0 ≤ c.ht ∧ c.ht ≤ s.vals.length := by
  obtain ⟨z, h1, h2, _⟩ := (sane_iff s).1 h
  intro c hc
  have := (sgo_ht s.cs 0 z h1).2 c hc
  omega
/-- A value taken where nothing is dead is known. -/
theorem pop_known {t : Stk} (h : Live t) (hn : NoD t) (h0 : (popS t).2.2 = 0) : (popS t).2.1 ≠ 0 := by
  simp only [popS] at h0 ⊢
  split at h0
  · exact absurd h0 (by decide)
  · rename_i h1
    rw [if_neg h1]
    cases hw : popV t.cs.getLast? t.vals with
    | none => rw [hw] at h0; exact absurd (show (5 : Int) = 0 from h0) (by decide)
    | some p =>
      obtain ⟨vs, v⟩ := p
      simp only
      unfold popV at hw
      cases hc : t.cs.getLast? with
      | none => rw [hc] at hw; cases hw
      | some c =>
        rw [hc] at hw
        simp only at hw
        have hd := hn c (List.mem_of_getLast? hc)
        split at hw
        · rename_i hlt
          simp only [Option.some.injEq, Prod.mk.injEq] at hw
          obtain ⟨_, rfl⟩ := hw
          have hh := sane_ht (s := t) (by simpa using h1) c (List.mem_of_getLast? hc)
          rcases List.eq_nil_or_concat t.vals with hv | ⟨q, x, hv⟩
          · rw [hv] at hlt
            simp only [List.length_nil] at hlt
            omega
          · refine h q.length _ ?_ (fun d hd' he => by rw [hn d hd'] at he; cases he)
            rw [hv]
            simp
        · rw [if_neg (by rw [hd]; simp)] at hw
          cases hw
theorem LvR.push {x : Rs} {l : List Int} (h : LvR x) (hl : ∀ s, x = .ok s → NoD s → ∀ v ∈ l, v ≠ 0) : LvR (pushR l x) := fun s hs => by
  obtain ⟨t, rfl, h2⟩ := bind_ok hs
  obtain ⟨h0, rfl⟩ := ofP_ok h2
  simp only [pushS] at h0 ⊢
  split at h0
  · exact absurd h0 (by decide)
  · rename_i h1
    rw [if_neg h1]
    split at h0
    · exact absurd h0 (by decide)
    · rename_i h3
      rw [if_neg h3]
      intro j v hj hd
      simp only at hj hd
      by_cases hlt : j < t.vals.length
      · rw [List.getElem?_append_left hlt] at hj
        exact h t rfl j v hj hd
      · rw [List.getElem?_append_right (by omega)] at hj
        refine hl t rfl (fun c hc => ?_) v (List.mem_of_getElem? hj)
        cases hq : c.dead with
        | false => rfl
        | true =>
          have := hd c hc hq
          have := (sane_ht (s := t) (by simpa using h1) c hc).2
          omega
theorem LvR.open {x : Rs} {op : Int} {l : List Int} (h : LvR x) : LvR (openR op l x) := fun s hs => by
  obtain ⟨t, rfl, h2⟩ := bind_ok hs
  obtain ⟨h0, rfl⟩ := ofP_ok h2
  simp only [openS] at h0 ⊢
  split at h0
  · exact absurd h0 (by decide)
  · rename_i h1
    rw [if_neg h1]
    split at h0
    · exact absurd h0 (by decide)
    · rename_i h3
      rw [if_neg h3]
      exact fun j v hj hd => h t rfl j v hj (fun c hc => hd c (List.mem_append_left _ hc))
theorem LvR.kill {x : Rs} (h : LvR x) : LvR (killR x) := fun s hs => by
  obtain ⟨t, rfl, h2⟩ := bind_ok hs
  obtain ⟨h0, rfl⟩ := ofP_ok h2
  simp only [killS] at h0 ⊢
  split at h0
  · exact absurd h0 (by decide)
  · rename_i h1
    rw [if_neg h1]
    rcases last_cases t.cs with hc | ⟨q, c, hc⟩
    · rw [hc] at h0; exact absurd (show (5 : Int) = 0 from h0) (by decide)
    · rw [hc]
      simp only [List.getLast?_append, List.getLast?_singleton, Option.some_or, List.dropLast_concat]
      intro j v hj hd
      simp only at hj hd
      rw [List.getElem?_take] at hj
      split at hj
      · rename_i hlt
        refine h t rfl j v hj (fun d hd' he => ?_)
        rw [hc] at hd'
        rcases List.mem_append.1 hd' with hd' | hd'
        · exact hd d (List.mem_append_left _ hd') he
        · rw [List.mem_singleton.1 hd']
          omega
      · cases hj
theorem LvR.close {x : Rs} (h : LvR x) : LvR (closeR x) := fun s hs => by
  obtain ⟨t, rfl, h2⟩ := bind_ok hs
  obtain ⟨h0, rfl⟩ := ofP_ok h2
  simp only [closeS] at h0 ⊢
  split at h0
  · exact absurd h0 (by decide)
  · rename_i h1
    rw [if_neg h1]
    rcases last_cases t.cs with hc | ⟨q, c, hc⟩
    · rw [hc] at h0; exact absurd (show (5 : Int) = 0 from h0) (by decide)
    · have hg : t.cs.getLast? = some c := by rw [hc]; simp
      rw [hg] at h0 ⊢
      simp only at h0 ⊢
      cases hw : wantV (some c) t.vals c.fin.reverse with
      | none => rw [hw] at h0; exact absurd (show (5 : Int) = 0 from h0) (by decide)
      | some vs =>
        rw [hw] at h0
        simp only at h0 ⊢
        split at h0
        · exact absurd (show (5 : Int) = 0 from h0) (by decide)
        · rename_i h3
          rw [if_neg h3]
          intro j v hj hd
          simp only at hj hd
          have hjl := (List.getElem?_eq_some_iff.1 hj).1
          refine (h t rfl).pre (wantV_pre _ hw) j v hj (fun d hd' he => ?_)
          simp only at hd'
          rw [hc] at hd'
          rcases List.mem_append.1 hd' with hd' | hd'
          · exact hd d (by rw [hc, List.dropLast_concat]; exact hd') he
          · rw [List.mem_singleton.1 hd']
            omega
theorem LvR.need {x : Rs} {b : Bool} {e : Int} (h : LvR x) : LvR (needR b e x) := fun s hs => by
  obtain ⟨t, rfl, h2⟩ := bind_ok hs
  split at h2
  · injection h2 with h2
    subst h2
    exact h t rfl
  · cases h2
theorem LvR.label {x : Rs} {i : Int} (h : LvR x) : LvR (labelR i x) := fun s hs => by
  obtain ⟨t, rfl, h2⟩ := bind_ok hs
  split at h2
  · injection h2 with h2
    subst h2
    exact h t rfl
  · cases h2
end Go.Proofs.YtlappkflnlbfcaaGreatDoor.Chk
end

section
/- Values that are come to are known, over any instruction: plain. -/
namespace Go.Proofs.YtlappkflnlbfcaaGreatDoor.Chk
open Go.RowKit Row9 Stk
set_option maxRecDepth 100000
set_option maxHeartbeats 1000000
set_option linter.unusedVariables false
theorem isV_nz {v : Int} (h : isV v = true) : v ≠ 0 := by
  unfold isV at h
  intro e
  subst e
  simp at h
theorem mayE_nz {l : List Int} (h : mayE l = true) : ∀ v ∈ l, v ≠ 0 := by
  match l with
  | [] => exact fun v hv => nomatch hv
  | [x] => exact fun v hv => by rw [List.mem_singleton.1 hv]; exact isV_nz h
  | x :: y :: z => cases h
theorem sgo_may : ∀ (cs : List Ctl) (h z : Int), sgo h cs = some z → ∀ c ∈ cs, mayE c.fin = true
  | [], _, _, _ => fun c hc => nomatch hc
  | c :: r, h, z, e => by
    rw [sgo] at e
    split at e
    · rename_i hq
      rw [Bool.and_eq_true] at hq
      intro d hd
      rcases List.mem_cons.1 hd with rfl | hd
      · exact hq.1
      · exact sgo_may r c.ht z e d hd
    · cases e
theorem label_nz (n : Int) (x : Rs) : ∀ v ∈ labelL n x, v ≠ 0 := by
  cases x with
  | er e => exact fun v hv => nomatch hv
  | ok s =>
    show ∀ v ∈ (labelS s n).1, v ≠ 0
    unfold labelS
    split
    · exact fun v hv => nomatch hv
    · rename_i h1
      split
      · exact fun v hv => nomatch hv
      · split
        · exact fun v hv => nomatch hv
        · rename_i c hc
          split
          · exact fun v hv => nomatch hv
          · obtain ⟨z, hz, _⟩ := (sane_iff s).1 (by simpa using h1)
            exact mayE_nz (sgo_may s.cs 0 z hz c (List.mem_of_getElem? hc))
theorem closed_nz (x : Rs) : ∀ v ∈ (closedC x).fin, v ≠ 0 := by
  cases x with
  | er e => exact fun v hv => nomatch hv
  | ok s =>
    show ∀ v ∈ (closeS s).2.1.fin, v ≠ 0
    unfold closeS
    split
    · exact fun v hv => nomatch hv
    · rename_i h1
      cases hc : s.cs.getLast? with
      | none => exact fun v hv => nomatch hv
      | some c =>
        cases hw : wantV (some c) s.vals c.fin.reverse with
        | none => simp only [hw]; exact fun v hv => nomatch hv
        | some vs =>
          simp only [hw]
          split
          · exact fun v hv => nomatch hv
          · obtain ⟨z, hz, _⟩ := (sane_iff s).1 (by simpa using h1)
            exact mayE_nz (sgo_may s.cs 0 z hz c (List.mem_of_getLast? hc))
theorem LvR.ite {c : Prop} [Decidable c] {x y : Rs} (h1 : LvR x) (h2 : LvR y) : LvR (if c then x else y) := by
  split
  · exact h1
  · exact h2
theorem LvR.tab {l : List Int} : ∀ (r : List Int) {x : Rs}, LvR x → LvR (tabR l r x)
  | [], _, h => h
  | _ :: r, _, h => LvR.tab r h.label.need
theorem tisV_nz {v : Int} (h : Typ.isV v = true) : v ≠ 0 := by
  unfold Typ.isV at h
  rcases of_decide_eq_true h with rfl | rfl <;> decide
/-- What an Env that may be gone over names. -/
theorem env_nz {E : EnvP} (h : saneE E = true) : (∀ v ∈ E.locals, v ≠ 0) ∧ (∀ p ∈ E.globs, p.1 ≠ 0) ∧ (∀ p ∈ E.types, ∀ v ∈ p.2, v ≠ 0) ∧ ∀ v ∈ E.results, v ≠ 0 := by
  have hr : ∀ {p r : List Int}, Typ.sane p r = true → ∀ v ∈ r, v ≠ 0 := fun {p r} h v hv => by
    unfold Typ.sane at h
    have h2 : Typ.allV r = true := by
      revert h
      cases decide (p.length ≤ 16) <;> cases decide (r.length ≤ 1) <;> cases Typ.allV p <;> simp
    exact tisV_nz (Typ.allV_true h2 v hv)
  unfold saneE at h
  simp only [Bool.and_eq_true, List.all_eq_true] at h
  obtain ⟨⟨⟨h1, h2⟩, h3⟩, h4⟩ := h
  exact ⟨fun v hv => isV_nz (h3 v hv), fun p hp => isV_nz (h4 p hp), fun p hp => hr (h2 p hp), hr h1⟩
theorem popR_cs {x : Rs} {t : Stk} (h : popR x = .ok t) : ∃ u, x = .ok u ∧ t.cs = u.cs ∧ (popS u).2.2 = 0 := by
  obtain ⟨u, rfl, h2⟩ := bind_ok h
  obtain ⟨h0, rfl⟩ := ofP_ok h2
  refine ⟨u, rfl, ?_, h0⟩
  simp only [popS] at h0 ⊢
  split at h0
  · exact absurd h0 (by decide)
  · rename_i h1
    rw [if_neg h1]
    cases hw : popV u.cs.getLast? u.vals with
    | none => rw [hw] at h0; exact absurd (show (5 : Int) = 0 from h0) (by decide)
    | some p => rfl
theorem need_same {b : Bool} {e : Int} {x : Rs} {t : Stk} (h : needR b e x = .ok t) : x = .ok t := by
  obtain ⟨u, rfl, h2⟩ := bind_ok h
  split at h2
  · exact h2
  · cases h2
theorem LvR.choose {s : Stk} (h : LvR (.ok s)) : LvR (chooseR s) := by
  unfold chooseR
  simp only
  refine LvR.push (h.want.pop.pop.need) fun t ht hn v hv => ?_
  rw [List.mem_singleton.1 hv]
  obtain ⟨u2, e2, c2, p2⟩ := popR_cs (need_same ht)
  obtain ⟨u1, e1, c1, p1⟩ := popR_cs e2
  have hn2 : NoD u2 := fun c hc => hn c (by rw [c2]; exact hc)
  have hn1 : NoD u1 := fun c hc => hn2 c (by rw [c1]; exact hc)
  have ha : popB (wantR [127] (.ok s)) ≠ 0 := by
    rw [e1]
    exact pop_known (h.want u1 e1) hn1 p1
  rw [if_neg ha]
  exact ha
theorem sh_nz {op : Int} (h : Ins.kd op = 1) (h0 : op ≠ 0 ∧ op ≠ 1 ∧ op ≠ 5 ∧ op ≠ 11 ∧ op ≠ 15 ∧ op ≠ 26 ∧ op ≠ 27) : (shT op).2 ≠ 0 := by
  have hc := Ins.kd_code (op := op) (by omega)
  obtain ⟨n, rfl⟩ : ∃ n : Nat, op = (n : Int) := ⟨op.toNat, by omega⟩
  have hn : n < 174 := by omega
  have key : ∀ n : Fin 174, Ins.kd (n.val : Int) = 1 → ((n.val : Int) ≠ 0 ∧ (n.val : Int) ≠ 1 ∧ (n.val : Int) ≠ 5 ∧ (n.val : Int) ≠ 11 ∧ (n.val : Int) ≠ 15 ∧ (n.val : Int) ≠ 26 ∧ (n.val : Int) ≠ 27) → (shT (n.val : Int)).2 ≠ 0 := by decide +kernel
  exact key ⟨n, hn⟩ h h0
theorem ax_nz {op : Int} (h : Ins.kd op = 6) : (Ins.ax op).1 ≠ 0 := by
  have hc := Ins.kd_code (op := op) (by omega)
  obtain ⟨n, rfl⟩ : ∃ n : Nat, op = (n : Int) := ⟨op.toNat, by omega⟩
  have hn : n < 174 := by omega
  have key : ∀ n : Fin 174, Ins.kd (n.val : Int) = 6 → (Ins.ax (n.val : Int)).1 ≠ 0 := by decide +kernel
  exact key ⟨n, hn⟩ h
theorem LvR.one {x : Rs} {v : Int} (h : LvR x) (hv : v ≠ 0) : LvR (pushR [v] x) := h.push fun s hs hn u hu => by rw [List.mem_singleton.1 hu]; exact hv
theorem getD_nz {α : Type} {l : List α} {n : Int} {d : α} {p : α → Prop} (h : ∀ a ∈ l, p a) (hi : (atL l n).isSome = true) : p ((atL l n).getD d) := by
  cases hq : atL l n with
  | none => rw [hq] at hi; cases hi
  | some a => exact h a (atL_mem hq)
end Go.Proofs.YtlappkflnlbfcaaGreatDoor.Chk
end

section
/- Values that are come to are known, along a path: plain. -/
namespace Go.Proofs.YtlappkflnlbfcaaGreatDoor.Chk
open Go.RowKit Row9 Stk
set_option maxRecDepth 100000
set_option maxHeartbeats 1000000
set_option linter.unusedVariables false
theorem need_true {b : Bool} {e : Int} {x : Rs} {t : Stk} (h : needR b e x = .ok t) : b = true := by
  obtain ⟨u, rfl, h2⟩ := bind_ok h
  split at h2
  · assumption
  · cases h2
theorem want_from {l : List Int} {x : Rs} {t : Stk} (h : wantR l x = .ok t) : ∃ u, x = .ok u := by
  obtain ⟨u, hu, _⟩ := bind_ok h
  exact ⟨u, hu⟩
theorem fn_nz {o : Option (List Int × List Int)} (h : ∀ p, o = some p → ∀ v ∈ p.2, v ≠ 0) : ∀ v ∈ (o.getD ([], [])).2, v ≠ 0 := by
  cases o with
  | none => exact fun v hv => nomatch hv
  | some p => exact h p rfl
theorem typeE_mem {E : EnvP} {f : Int} {p : List Int × List Int} (h : typeE E f = some p) : p ∈ E.types := by
  unfold typeE at h
  cases hf : atL E.funcs f with
  | none => rw [hf] at h; cases h
  | some n => rw [hf] at h; exact atL_mem h
theorem LvR.loc {op v : Int} {x : Rs} (h : LvR x) (hv : ∀ s, x = .ok s → v ≠ 0) : LvR (localR op v x) := by
  have key : LvR (if op = 32 then x else wantR [v] x) := LvR.ite h h.want
  unfold localR
  simp only
  refine LvR.ite key (key.push fun s hs hn u hu => ?_)
  rw [List.mem_singleton.1 hu]
  split at hs
  · exact hv s hs
  · obtain ⟨t, ht⟩ := want_from hs
    exact hv t ht
theorem LvR.take {E : EnvP} (hE : saneE E = true) {i : Ins.Ins} {s : Stk} (h : LvR (.ok s)) : LvR (takeR E i s) := by
  obtain ⟨n1, n2, n3, n4⟩ := env_nz hE
  unfold takeR
  by_cases h1 : Ins.kd i.op = 1
  · rw [if_pos h1]
    unfold plainR
    by_cases q0 : i.op = 0
    · rw [if_pos q0]; exact h.kill
    rw [if_neg q0]
    by_cases q1 : i.op = 1
    · rw [if_pos q1]; exact h.push fun _ _ _ v hv => nomatch hv
    rw [if_neg q1]
    by_cases q5 : i.op = 5
    · rw [if_pos q5]; exact h.need.close.open
    rw [if_neg q5]
    by_cases q11 : i.op = 11
    · rw [if_pos q11]; exact h.need.close.need.push fun _ _ _ => closed_nz _
    rw [if_neg q11]
    by_cases q15 : i.op = 15
    · rw [if_pos q15]; exact h.want.kill
    rw [if_neg q15]
    by_cases q26 : i.op = 26
    · rw [if_pos q26]; exact h.pop
    rw [if_neg q26]
    by_cases q27 : i.op = 27
    · rw [if_pos q27]; exact h.choose
    rw [if_neg q27]
    exact h.want.one (sh_nz h1 ⟨q0, q1, q5, q11, q15, q26, q27⟩)
  rw [if_neg h1]
  refine LvR.ite (LvR.ite h.want h).open (LvR.ite ?_ (LvR.ite (LvR.tab _ h.label).want.want.kill (LvR.ite ?_ ?_)))
  · unfold indexR
    refine LvR.ite h.label.want.kill (LvR.ite (h.label.want.want.push fun _ _ _ => label_nz _ _) (LvR.ite (h.need.want.push fun _ _ _ => fn_nz fun p hp => n3 p (typeE_mem hp)) (LvR.ite (h.need.loc fun t ht => getD_nz (p := fun v => v ≠ 0) n1 (need_true ht)) (LvR.ite (h.need.push fun t ht _ v hv => ?_) (LvR.ite h.need.need.want h)))))
    rw [List.mem_singleton.1 hv]
    exact getD_nz (p := fun q : Int × Bool => q.1 ≠ 0) n2 (need_true ht)
  · exact h.need.need.want.want.push fun _ _ _ => fn_nz fun p hp => n3 p (atL_mem hp)
  · by_cases h6 : Ins.kd i.op = 6
    · rw [if_pos h6]
      unfold accessR
      exact LvR.ite h.need.need.want (h.need.need.want.one (ax_nz h6))
    · rw [if_neg h6]
      exact LvR.ite ((LvR.ite h.need h.need.want).one (by decide)) (LvR.ite (h.one (by decide)) (h.one (by decide)))
theorem instr_live {E : EnvP} (hE : saneE E = true) {i : Ins.Ins} {s t : Stk} (h : Live s) (ht : instrR E i s = .ok t) : Live t := by
  unfold instrR at ht
  split at ht
  · cases ht
  · exact LvR.take hE (fun u hu => by injection hu with hu; rw [← hu]; exact h) t ht
theorem go_live {E : EnvP} (hE : saneE E = true) : ∀ (l : List Ins.Ins) (s : Stk), Live s → ∀ t ∈ (pathGo E l s).1, Live t
  | [], s, h, t, ht => by
    rw [List.mem_singleton.1 ht]
    exact h
  | i :: l, s, h, t, ht => by
    unfold pathGo at ht
    cases hx : instrR E i s with
    | ok u =>
      rw [hx] at ht
      rcases List.mem_cons.1 ht with rfl | ht
      · exact h
      · exact go_live hE l u (instr_live hE h hx) t ht
    | er e =>
      rw [hx] at ht
      rw [List.mem_singleton.1 ht]
      exact h
theorem s0_live (E : EnvP) : Live (s0 E) := fun j v hj => by simp [s0] at hj
end Go.Proofs.YtlappkflnlbfcaaGreatDoor.Chk
end

section
/- What a body that fits leaves: plain. -/
namespace Go.Proofs.YtlappkflnlbfcaaGreatDoor.Chk
open Go.RowKit Row9 Stk
set_option maxRecDepth 100000
set_option maxHeartbeats 1000000
set_option linter.unusedVariables false
/-- What is wanted of known values, where nothing is dead, lies on top. -/
theorem want_top {c : Ctl} (hd : c.dead = false) : ∀ (r : List Int) {vals vs : List Int}, (0 ≤ c.ht) → (∀ v ∈ vals, v ≠ 0) → (∀ v ∈ r, v ≠ 0) → wantV (some c) vals r = some vs → vals = vs ++ r.reverse
  | [], vals, vs, _, _, _, h => by
    obtain rfl : vals = vs := Option.some.inj h
    simp
  | x :: r, vals, vs, h0, hv, hr, h => by
    rw [wantV] at h
    split at h
    · cases h
    · rename_i vs1 v hp
      split at h
      · rename_i hf
        unfold popV at hp
        simp only at hp
        split at hp
        · rename_i hlt
          simp only [Option.some.injEq, Prod.mk.injEq] at hp
          obtain ⟨rfl, rfl⟩ := hp
          rcases List.eq_nil_or_concat vals with e | ⟨q, y, e⟩
          · rw [e] at hlt
            simp only [List.length_nil] at hlt
            omega
          · rw [List.concat_eq_append] at e
            subst e
            rw [show (q ++ [y]).dropLast = q by simp] at h
            have hy : y ≠ 0 := hv y (by simp)
            have hx : x ≠ 0 := hr x (by simp)
            have hxy : y = x := by
              have e2 : (q ++ [y]).getLastD 0 = y := by simp
              rw [e2] at hf
              unfold fit at hf
              simp only [Bool.or_eq_true, beq_iff_eq] at hf
              rcases hf with (hf | hf) | hf
              · exact hf
              · exact absurd hf hy
              · exact absurd hf hx
            subst hxy
            have := want_top hd r h0 (fun v hv' => hv v (by simp [hv'])) (fun v hv' => hr v (by simp [hv'])) h
            rw [this]
            simp
        · rw [if_neg (by rw [hd]; simp)] at hp
          cases hp
      · cases h
theorem want_count {o : Option Ctl} : ∀ (r : List Int) {vals vs : List Int}, wantV o vals r = some vs → vals.length ≤ vs.length + r.length
  | [], vals, vs, h => by
    obtain rfl : vals = vs := Option.some.inj h
    simp
  | x :: r, vals, vs, h => by
    rw [wantV] at h
    split at h
    · cases h
    · rename_i vs1 v hp
      split at h
      · have h1 := want_count r h
        have h2 : vals.length ≤ vs1.length + 1 := by
          unfold popV at hp
          split at hp
          · cases hp
          · split at hp
            · simp only [Option.some.injEq, Prod.mk.injEq] at hp
              rw [← hp.1, List.length_dropLast]
              omega
            · split at hp
              · simp only [Option.some.injEq, Prod.mk.injEq] at hp
                rw [← hp.1]
                omega
              · cases hp
        simp only [List.length_cons]
        omega
      · cases h
/-- The outermost block. -/
def Fst (l : List Int) (s : Stk) : Prop := ∃ d, s.cs.head? = some ⟨2, l, 0, d⟩
/-- A stack of one block that may be closed. -/
theorem close_one {l : List Int} {s : Stk} (hs : sane s = true) (hl : Live s) (hf : Fst l s) (h1 : s.cs.length = 1) (hn : ∀ v ∈ l, v ≠ 0) (h : (closeS s).2.2 = 0) : s.vals.length ≤ l.length ∧ ∃ d, s.cs = [⟨2, l, 0, d⟩] ∧ (d = false → s.vals = l) := by
  obtain ⟨d, hd⟩ := hf
  have hc : s.cs = [⟨2, l, 0, d⟩] := by
    match hq : s.cs, h1 with
    | [c], _ =>
      rw [hq] at hd
      simp only [List.head?_cons, Option.some.injEq] at hd
      rw [hd]
  have hg : s.cs.getLast? = some ⟨2, l, 0, d⟩ := by rw [hc]; rfl
  simp only [closeS] at h
  rw [if_neg (by rw [hs]; simp), hg] at h
  simp only at h
  cases hw : wantV (some ⟨2, l, 0, d⟩) s.vals l.reverse with
  | none => rw [hw] at h; exact absurd (show (5 : Int) = 0 from h) (by decide)
  | some vs =>
    rw [hw] at h
    simp only at h
    split at h
    · exact absurd (show (5 : Int) = 0 from h) (by decide)
    · rename_i hz
      have hvs : vs = [] := List.eq_nil_of_length_eq_zero (by simp only [Decidable.not_not, ne_eq] at hz; omega)
      subst hvs
      have h3 := want_count _ hw
      rw [List.length_reverse] at h3
      refine ⟨by simpa using h3, d, hc, fun hq => ?_⟩
      subst hq
      have := want_top (c := ⟨2, l, 0, false⟩) rfl l.reverse (Int.le_refl _) (fun v hv => ?_) (fun v hv => hn v (List.mem_reverse.1 hv)) hw
      · simpa using this
      · obtain ⟨j, hj⟩ := List.getElem?_of_mem hv
        exact hl j v hj (fun c hc' he => by rw [hc, List.mem_singleton] at hc'; rw [hc'] at he; cases he)
end Go.Proofs.YtlappkflnlbfcaaGreatDoor.Chk
end
