/- BodNest, BodMAt, BodFew. -/
import Derived.Test.YtlappkflnlbfcaaGreatDoorPkBodEnd
import Derived.Deep.Slices
section
/- The document's Matches over codes: it answers just where all is nested, as the stack tells. Plain lists. -/
namespace Go.Proofs.YtlappkflnlbfcaaGreatDoor.Bod
set_option maxRecDepth 100000
set_option maxHeartbeats 1000000
set_option linter.unusedVariables false

/-- One more that opens: where its parts are, and that these are used. -/
def mst (ops : List Int) (k : Nat) (s : List (Int × Int) × List Bool) : Option (List (Int × Int) × List Bool) :=
  if opn (ops.getD k 0) then
    if (dEnd ops k).1 < 0 then none
    else if 0 ≤ (dEnd ops k).2 then some ((s.1.set k ((dEnd ops k).2, (dEnd ops k).1)).set (dEnd ops k).2.toNat (-1, (dEnd ops k).1), (s.2.set (dEnd ops k).1.toNat true).set (dEnd ops k).2.toNat true)
    else some (s.1.set k ((dEnd ops k).2, (dEnd ops k).1), s.2.set (dEnd ops k).1.toNat true)
  else some s
def m2 (ops : List Int) : Nat → Option (List (Int × Int) × List Bool)
  | 0 => some (List.replicate ops.length (-1, -1), List.replicate ops.length false)
  | k + 1 => (m2 ops k).bind (mst ops k)
/-- Is each else and each end used? -/
def usedOk (ops : List Int) (used : List Bool) : Bool := (List.range ops.length).all fun k => !(ops.getD k 0 == 5 || ops.getD k 0 == 11) || used.getD k false
/-- Matches, by the document. -/
def dM (ops : List Int) : Option (List (Int × Int)) := (m2 ops ops.length).bind fun s => if usedOk ops s.2 then some s.1 else none
theorem getD_setI {α : Type} (l : List α) (i j : Nat) (a d : α) : (l.set i a).getD j d = if i = j ∧ j < l.length then a else l.getD j d := by
  rw [List.getD_eq_getElem?_getD, List.getD_eq_getElem?_getD, List.getElem?_set]
  by_cases e : i = j
  · subst e
    by_cases h : i < l.length
    · simp [h]
    · simp [h]
  · simp [e]
/-- Is a place the end, or the else, of one of the first k? -/
def IsPart (ops : List Int) (k p : Nat) : Prop := ∃ j, j < k ∧ opn (ops.getD j 0) = true ∧ ((dEnd ops j).1 = (p : Int) ∨ (dEnd ops j).2 = (p : Int))
def IsElse (ops : List Int) (k p j : Nat) : Prop := j < k ∧ opn (ops.getD j 0) = true ∧ (dEnd ops j).2 = (p : Int)
structure M2 (ops : List Int) (k : Nat) (s : List (Int × Int) × List Bool) : Prop where
  len1 : s.1.length = ops.length
  len2 : s.2.length = ops.length
  pos : ∀ j, j < k → opn (ops.getD j 0) = true → 0 ≤ (dEnd ops j).1
  used : ∀ p, p < ops.length → (s.2.getD p false = true ↔ IsPart ops k p)
  o1 : ∀ p, p < ops.length → p < k → opn (ops.getD p 0) = true → s.1.getD p (-1, -1) = ((dEnd ops p).2, (dEnd ops p).1)
  o2 : ∀ p, p < ops.length → (∃ j, IsElse ops k p j) → ∃ j, IsElse ops k p j ∧ s.1.getD p (-1, -1) = (-1, (dEnd ops j).1)
  o3 : ∀ p, p < ops.length → (opn (ops.getD p 0) = true → k ≤ p) → (¬ ∃ j, IsElse ops k p j) → s.1.getD p (-1, -1) = (-1, -1)
theorem part_skip {ops : List Int} {k p : Nat} (h : ¬ opn (ops.getD k 0) = true) : IsPart ops (k + 1) p ↔ IsPart ops k p := by
  constructor
  · rintro ⟨j, h1, h2, h3⟩
    refine ⟨j, ?_, h2, h3⟩
    by_cases e : j = k
    · subst e; exact absurd h2 h
    · omega
  · rintro ⟨j, h1, h2, h3⟩
    exact ⟨j, by omega, h2, h3⟩
theorem else_skip {ops : List Int} {k p j : Nat} (h : ¬ opn (ops.getD k 0) = true) : IsElse ops (k + 1) p j ↔ IsElse ops k p j := by
  constructor
  · rintro ⟨h1, h2, h3⟩
    refine ⟨?_, h2, h3⟩
    by_cases e : j = k
    · subst e; exact absurd h2 h
    · omega
  · rintro ⟨h1, h2, h3⟩
    exact ⟨by omega, h2, h3⟩
theorem else_op {ops : List Int} {k p j : Nat} (hk : k ≤ ops.length) (h : IsElse ops k p j) : ops.getD p 0 = 5 ∧ j < p := by
  obtain ⟨h1, h2, h3⟩ := h
  rcases dEnd_facts (ops := ops) (k := j) (by omega) with e | ⟨e, o, e1, e2, e3, e4, e5, e6⟩
  · rw [e] at h3; simp at h3
  · rw [e1] at h3
    simp only at h3
    subst h3
    rcases e6 with e6 | ⟨_, g2, g3⟩
    · omega
    · rw [Int.toNat_natCast] at g3
      exact ⟨g3, by omega⟩
theorem m2_inv (ops : List Int) : ∀ (k : Nat) (s : List (Int × Int) × List Bool), k ≤ ops.length → m2 ops k = some s → M2 ops k s
  | 0, s, _, h => by
    obtain rfl := Option.some.inj h
    refine ⟨by simp, by simp, fun j hj => by omega, fun p hp => ?_, fun p _ hp => by omega, fun p _ ⟨j, hj⟩ => absurd hj.1 (by omega), fun p hp _ _ => ?_⟩
    · constructor
      · intro hh
        rw [List.getD_eq_getElem?_getD, List.getElem?_replicate] at hh
        simp [hp] at hh
      · rintro ⟨j, hj, _⟩; omega
    · rw [List.getD_eq_getElem?_getD, List.getElem?_replicate]
      simp [hp]
  | k + 1, s', hk, h => by
    have hb : (m2 ops k).bind (mst ops k) = some s' := h
    cases h0 : m2 ops k with
    | none => rw [h0] at hb; cases hb
    | some s =>
      rw [h0] at hb
      have hb : mst ops k s = some s' := hb
      have ih := m2_inv ops k s (by omega) h0
      unfold mst at hb
      by_cases ho : opn (ops.getD k 0) = true
      · rw [if_pos ho] at hb
        by_cases hneg : (dEnd ops k).1 < 0
        · rw [if_pos hneg] at hb; cases hb
        · rw [if_neg hneg] at hb
          rcases dEnd_facts (ops := ops) (k := k) (by omega) with e | ⟨e, o, e1, e2, e3, e4, e5, e6⟩
          · rw [e] at hneg; simp at hneg
          · rw [e1] at hb hneg
            simp only [Int.toNat_natCast] at hb
            have hkop := opn_not ho
            have hpart : ∀ p, IsPart ops (k + 1) p ↔ (IsPart ops k p ∨ (e : Int) = (p : Int) ∨ o = (p : Int)) := by
              intro p
              constructor
              · rintro ⟨j, h1, h2, h3⟩
                by_cases ej : j = k
                · subst ej; rw [e1] at h3; exact .inr h3
                · exact .inl ⟨j, by omega, h2, h3⟩
              · rintro (⟨j, h1, h2, h3⟩ | h3)
                · exact ⟨j, by omega, h2, h3⟩
                · exact ⟨k, by omega, ho, by rw [e1]; exact h3⟩
            have helse : ∀ p j, IsElse ops (k + 1) p j ↔ (IsElse ops k p j ∨ (j = k ∧ o = (p : Int))) := by
              intro p j
              constructor
              · rintro ⟨h1, h2, h3⟩
                by_cases ej : j = k
                · subst ej; rw [e1] at h3; exact .inr ⟨rfl, h3⟩
                · exact .inl ⟨by omega, h2, h3⟩
              · rintro (⟨h1, h2, h3⟩ | ⟨rfl, h3⟩)
                · exact ⟨by omega, h2, h3⟩
                · exact ⟨by omega, ho, by rw [e1]; exact h3⟩
            have hpos : ∀ j, j < k + 1 → opn (ops.getD j 0) = true → 0 ≤ (dEnd ops j).1 := fun j hj hoj => by
              by_cases ej : j = k
              · subst ej; rw [e1]; simp only; omega
              · exact ih.pos j (by omega) hoj
            by_cases hoo : 0 ≤ o
            · rw [if_pos hoo] at hb
              obtain rfl := Option.some.inj hb
              obtain ⟨on, rfl⟩ := Int.eq_ofNat_of_zero_le hoo
              rcases e6 with e6 | ⟨_, g2, g3⟩
              · omega
              · rw [Int.toNat_natCast] at g3 ⊢
                refine ⟨by simp [ih.len1], by simp [ih.len2], hpos, fun p hp => ?_, fun p hp hpk hop => ?_, fun p hp hex => ?_, fun p hp hpk hne => ?_⟩
                · simp only [getD_setI, List.length_set, ih.len2]
                  rw [hpart]
                  by_cases c1 : on = p
                  · simp [c1, hp]
                  · by_cases c2 : e = p
                    · simp [c1, c2, hp]
                    · rw [if_neg (fun q => c1 q.1), if_neg (fun q => c2 q.1), ih.used p hp]
                      constructor
                      · exact .inl
                      · rintro (q | q | q)
                        · exact q
                        · omega
                        · omega
                · simp only [getD_setI, List.length_set, ih.len1]
                  have c1 : on ≠ p := fun c => by subst c; rw [g3] at hop; exact absurd hop (by decide)
                  rw [if_neg (fun q => c1 q.1)]
                  by_cases c2 : k = p
                  · subst c2; rw [if_pos ⟨rfl, hp⟩, e1]
                  · rw [if_neg (fun q => c2 q.1)]
                    exact ih.o1 p hp (by omega) hop
                · simp only [getD_setI, List.length_set, ih.len1]
                  by_cases c1 : on = p
                  · subst c1
                    exact ⟨k, (helse _ _).2 (.inr ⟨rfl, rfl⟩), by rw [if_pos ⟨rfl, hp⟩, e1]⟩
                  · rw [if_neg (fun q => c1 q.1)]
                    obtain ⟨j, hj⟩ := hex
                    have hop := (else_op (by omega) hj).1
                    have c2 : k ≠ p := fun c => by subst c; exact hkop.1 hop
                    rw [if_neg (fun q => c2 q.1)]
                    rcases (helse _ _).1 hj with hj | ⟨_, hj⟩
                    · obtain ⟨j', hj', hv⟩ := ih.o2 p hp ⟨j, hj⟩
                      exact ⟨j', (helse _ _).2 (.inl hj'), hv⟩
                    · omega
                · simp only [getD_setI, List.length_set, ih.len1]
                  have c1 : on ≠ p := fun c => by subst c; exact hne ⟨k, (helse _ _).2 (.inr ⟨rfl, rfl⟩)⟩
                  have c2 : k ≠ p := fun c => by subst c; have := hpk ho; omega
                  rw [if_neg (fun q => c1 q.1), if_neg (fun q => c2 q.1)]
                  exact ih.o3 p hp (fun q => by have := hpk q; omega) (fun ⟨j, hj⟩ => hne ⟨j, (helse _ _).2 (.inl hj)⟩)
            · rw [if_neg hoo] at hb
              obtain rfl := Option.some.inj hb
              refine ⟨by simp [ih.len1], by simp [ih.len2], hpos, fun p hp => ?_, fun p hp hpk hop => ?_, fun p hp hex => ?_, fun p hp hpk hne => ?_⟩
              · simp only [getD_setI, ih.len2]
                rw [hpart]
                by_cases c2 : e = p
                · simp [c2, hp]
                · rw [if_neg (fun q => c2 q.1), ih.used p hp]
                  constructor
                  · exact .inl
                  · rintro (q | q | q)
                    · exact q
                    · omega
                    · omega
              · simp only [getD_setI, ih.len1]
                by_cases c2 : k = p
                · subst c2; rw [if_pos ⟨rfl, hp⟩, e1]
                · rw [if_neg (fun q => c2 q.1)]
                  exact ih.o1 p hp (by omega) hop
              · simp only [getD_setI, ih.len1]
                obtain ⟨j, hj⟩ := hex
                have hop := (else_op (by omega) hj).1
                have c2 : k ≠ p := fun c => by subst c; exact hkop.1 hop
                rw [if_neg (fun q => c2 q.1)]
                rcases (helse _ _).1 hj with hj | ⟨_, hj⟩
                · obtain ⟨j', hj', hv⟩ := ih.o2 p hp ⟨j, hj⟩
                  exact ⟨j', (helse _ _).2 (.inl hj'), hv⟩
                · omega
              · simp only [getD_setI, ih.len1]
                have c2 : k ≠ p := fun c => by subst c; have := hpk ho; omega
                rw [if_neg (fun q => c2 q.1)]
                exact ih.o3 p hp (fun q => by have := hpk q; omega) (fun ⟨j, hj⟩ => hne ⟨j, (helse _ _).2 (.inl hj)⟩)
      · rw [if_neg ho] at hb
        obtain rfl := Option.some.inj hb
        refine ⟨ih.len1, ih.len2, fun j hj hoj => ?_, fun p hp => by rw [part_skip ho]; exact ih.used p hp, fun p hp hpk hop => ?_, fun p hp hex => ?_, fun p hp hpk hne => ?_⟩
        · by_cases ej : j = k
          · subst ej; exact absurd hoj ho
          · exact ih.pos j (by omega) hoj
        · by_cases ej : p = k
          · subst ej; exact absurd hop ho
          · exact ih.o1 p hp (by omega) hop
        · obtain ⟨j, hj⟩ := hex
          obtain ⟨j', hj', hv⟩ := ih.o2 p hp ⟨j, (else_skip ho).1 hj⟩
          exact ⟨j', (else_skip ho).2 hj', hv⟩
        · refine ih.o3 p hp (fun q => by have := hpk q; omega) (fun ⟨j, hj⟩ => hne ⟨j, (else_skip ho).2 hj⟩)
/-- Where all is nested, every one that opens has its end. -/
theorem m2_some {ops : List Int} (h : Nested ops) : ∀ k, k ≤ ops.length → ∃ s, m2 ops k = some s
  | 0, _ => ⟨_, rfl⟩
  | k + 1, hk => by
    obtain ⟨s, hs⟩ := m2_some h k (by omega)
    have e : m2 ops (k + 1) = (m2 ops k).bind (mst ops k) := rfl
    rw [e, hs]
    show ∃ s', mst ops k s = some s'
    unfold mst
    by_cases ho : opn (ops.getD k 0) = true
    · obtain ⟨e, o, h1, _⟩ := nested_closed h (by omega) ho
      rw [if_pos ho, h1, if_neg (by simp only; omega)]
      split
      · exact ⟨_, rfl⟩
      · exact ⟨_, rfl⟩
    · rw [if_neg ho]
      exact ⟨_, rfl⟩
/-- Each end, and each else, is that of what is on top there. -/
theorem top_end {ops : List Int} (h : Nested ops) {p : Nat} (hp : p < ops.length) (h11 : ops.getD p 0 = 11) : ∃ k f o S, st ops p = some ((k, f, o) :: S) ∧ k < p ∧ opn (ops.getD k 0) = true ∧ dEnd ops k = ((p : Int), o) := by
  obtain ⟨S1, h1⟩ := st_le h (q := p + 1) (by omega)
  obtain ⟨S, h0⟩ := st_before h1
  have hs := st_succ h0 h1
  have hno : ¬ opn (ops.getD p 0) = true := by rw [h11]; decide
  unfold stepS at hs
  rw [if_neg hno, if_neg (by rw [h11]; decide), if_pos h11] at hs
  cases S with
  | nil => cases hs
  | cons a S =>
    obtain ⟨k, f, o⟩ := a
    obtain ⟨g1, g2, g3, g4, g5, g7, g6⟩ := held ops (by omega) h0 [] S k f o rfl
    refine ⟨k, f, o, S, h0, g1, g2, ?_⟩
    rw [g6, drop_cons hp, el, if_neg hno, if_neg (fun q => by rw [h11] at q; exact absurd q.1 (by decide)), if_pos ⟨h11, rfl⟩]
theorem top_else {ops : List Int} (h : Nested ops) {p : Nat} (hp : p < ops.length) (h5 : ops.getD p 0 = 5) : ∃ k o S, st ops p = some ((k, true, o) :: S) ∧ k < p ∧ o < 0 ∧ opn (ops.getD k 0) = true ∧ (dEnd ops k).2 = (p : Int) := by
  obtain ⟨S1, h1⟩ := st_le h (q := p + 1) (by omega)
  obtain ⟨S, h0⟩ := st_before h1
  have hs := st_succ h0 h1
  have hno : ¬ opn (ops.getD p 0) = true := by rw [h5]; decide
  unfold stepS at hs
  rw [if_neg hno, if_pos h5] at hs
  cases S with
  | nil => cases hs
  | cons a S =>
    obtain ⟨k, f, o⟩ := a
    cases f with
    | false => cases hs
    | true =>
      simp only at hs
      by_cases ho : o < 0
      · rw [if_pos ho] at hs
        obtain rfl := Option.some.inj hs
        obtain ⟨g1, g2, g3, g4, g5, g7, g6⟩ := held ops (by omega) h1 [] S k true (p : Int) rfl
        obtain ⟨f1, f2, _⟩ := held ops (by omega) h0 [] S k true o rfl
        refine ⟨k, o, S, h0, f1, ho, g2, ?_⟩
        obtain ⟨e, o', h2, _⟩ := nested_closed h (show k < ops.length by omega) g2
        rcases el_facts true (ops.drop (p + 1)) (p + 1) 0 (p : Int) (by omega) with q | ⟨e', o'', q1, _, _, _, _, _, q7⟩
        · rw [show el true (ops.drop (p + 1)) (p + 1) ([] : Stk).length (p : Int) = _ from q] at g6
          rw [g6] at h2
          simp at h2
        · rw [g6, show el true (ops.drop (p + 1)) (p + 1) ([] : Stk).length (p : Int) = _ from q1]
          exact q7 (by omega)
      · rw [if_neg ho] at hs; cases hs
theorem dM_some {ops : List Int} (h : Nested ops) : ∃ out, dM ops = some out := by
  obtain ⟨s, hs⟩ := m2_some h ops.length (Nat.le_refl _)
  have hi := m2_inv ops _ s (Nat.le_refl _) hs
  refine ⟨s.1, ?_⟩
  unfold dM
  rw [hs]
  show (if usedOk ops s.2 then some s.1 else none) = some s.1
  rw [if_pos]
  unfold usedOk
  rw [List.all_eq_true]
  intro p hp
  rw [List.mem_range] at hp
  by_cases h5 : ops.getD p 0 = 5
  · obtain ⟨k, o, S, _, g1, _, g2, g3⟩ := top_else h hp h5
    rw [(hi.used p hp).2 ⟨k, by omega, g2, .inr g3⟩, Bool.or_true]
  · by_cases h11 : ops.getD p 0 = 11
    · obtain ⟨k, f, o, S, _, g1, g2, g3⟩ := top_end h hp h11
      rw [(hi.used p hp).2 ⟨k, by omega, g2, .inl (by rw [g3])⟩, Bool.or_true]
    · rw [show (ops.getD p 0 == 5) = false from by simpa using h5, show (ops.getD p 0 == 11) = false from by simpa using h11]
      rfl
theorem dM_nested {ops : List Int} {out : List (Int × Int)} (h : dM ops = some out) : Nested ops := by
  unfold dM at h
  cases hs : m2 ops ops.length with
  | none => rw [hs] at h; cases h
  | some s =>
    rw [hs] at h
    have h : (if usedOk ops s.2 then some s.1 else none) = some out := h
    by_cases hu : usedOk ops s.2 = true
    · have hi := m2_inv ops _ s (Nat.le_refl _) hs
      have hpart : ∀ p, p < ops.length → (ops.getD p 0 = 5 ∨ ops.getD p 0 = 11) → IsPart ops ops.length p := fun p hp ho => by
        have h1 := List.all_eq_true.1 hu p (List.mem_range.2 hp)
        have h2 : (ops.getD p 0 == 5 || ops.getD p 0 == 11) = true := by simpa using ho
        rw [h2] at h1
        exact (hi.used p hp).1 (by simpa using h1)
      have all : ∀ p, p ≤ ops.length → ∃ S, st ops p = some S := by
        intro p
        induction p with
        | zero => exact fun _ => ⟨[], rfl⟩
        | succ p ih =>
          intro hp
          obtain ⟨S, h0⟩ := ih (by omega)
          have e : st ops (p + 1) = (st ops p).bind fun S => stepS p (ops.getD p 0) S := rfl
          rw [e, h0]
          show ∃ S', stepS p (ops.getD p 0) S = some S'
          have hH := held ops (by omega) h0
          unfold stepS
          by_cases h1 : opn (ops.getD p 0) = true
          · rw [if_pos h1]; exact ⟨_, rfl⟩
          · rw [if_neg h1]
            by_cases h5 : ops.getD p 0 = 5
            · rw [if_pos h5]
              obtain ⟨k, hk, hok, hkp⟩ := hpart p (by omega) (.inl h5)
              have hko : (dEnd ops k).2 = (p : Int) ∧ k < p := by
                rcases dEnd_facts hk with q | ⟨e, o, q1, q2, q3, q4, q5, q6⟩
                · rw [q] at hkp; simp at hkp
                · rw [q1] at hkp ⊢
                  simp only at hkp ⊢
                  rcases hkp with hkp | hkp
                  · have : e = p := by omega
                    subst this
                    rw [h5] at q4
                    exact absurd q4 (by decide)
                  · rcases q6 with q6 | ⟨_, g2, _⟩
                    · omega
                    · exact ⟨hkp, by omega⟩
              have hpos := hi.pos k hk hok
              rcases open_or_closed ops (by omega) h0 k hko.2 hok with ⟨f, o, hm⟩ | ⟨e, o, c1, c2, c3, c4, c5, _⟩
              · obtain ⟨S1, S2, rfl⟩ := List.append_of_mem hm
                obtain ⟨g1, g2, g3, g4, g5, g7, g6⟩ := hH S1 S2 k f o rfl
                rw [drop_cons (by omega), el, if_neg h1] at g6
                by_cases hd : S1.length = 0
                · obtain rfl := List.length_eq_zero_iff.1 hd
                  rw [if_pos ⟨h5, rfl⟩] at g6
                  by_cases hbad : 0 ≤ o ∨ f = false
                  · rw [if_pos hbad] at g6
                    rw [g6] at hpos
                    simp at hpos
                  · have ho : o < 0 := by omega
                    have hf : f = true := by
                      cases f with
                      | true => rfl
                      | false => exact absurd (.inr rfl) hbad
                    subst hf
                    simp only [List.nil_append]
                    rw [if_pos ho]
                    exact ⟨_, rfl⟩
                · rw [if_neg (fun q => hd q.2), if_neg (fun q => hd q.2), if_neg (by rw [h5]; decide)] at g6
                  exfalso
                  rcases el_facts f (ops.drop (p + 1)) (p + 1) S1.length o (by omega) with q | ⟨e, o', q1, _, _, _, _, q6, _⟩
                  · rw [g6, q] at hpos; simp at hpos
                  · rw [g6, q1] at hko
                    simp only at hko
                    rcases q6 with q6 | ⟨_, _, q8, _⟩
                    · omega
                    · omega
              · rw [c1] at hko
                simp only at hko
                omega
            · rw [if_neg h5]
              by_cases h11 : ops.getD p 0 = 11
              · rw [if_pos h11]
                cases S with
                | cons a S => exact ⟨_, rfl⟩
                | nil =>
                  exfalso
                  obtain ⟨k, hk, hok, hkp⟩ := hpart p (by omega) (.inr h11)
                  have hko : (dEnd ops k).1 = (p : Int) ∧ k < p := by
                    rcases dEnd_facts hk with q | ⟨e, o, q1, q2, q3, q4, q5, q6⟩
                    · rw [q] at hkp; simp at hkp
                    · rw [q1] at hkp ⊢
                      simp only at hkp ⊢
                      rcases hkp with hkp | hkp
                      · exact ⟨hkp, by omega⟩
                      · rcases q6 with q6 | ⟨_, g2, g3⟩
                        · omega
                        · rw [hkp, Int.toNat_natCast, h11] at g3
                          exact absurd g3 (by decide)
                  rcases open_or_closed ops (by omega) h0 k hko.2 hok with ⟨f, o, hm⟩ | ⟨e, o, c1, c2, c3, _⟩
                  · simp at hm
                  · rw [c1] at hko
                    simp only at hko
                    omega
              · rw [if_neg h11]; exact ⟨_, rfl⟩
      obtain ⟨S, hS⟩ := all ops.length (Nat.le_refl _)
      cases S with
      | nil => exact hS
      | cons a S =>
        exfalso
        obtain ⟨k, f, o⟩ := a
        obtain ⟨g1, g2, g3, g4, g5, g7, g6⟩ := held ops (Nat.le_refl _) hS [] S k f o rfl
        have hpos := hi.pos k g1 g2
        rw [g6, List.drop_eq_nil_of_le (Nat.le_refl _)] at hpos
        simp [el] at hpos
    · rw [if_neg hu] at h; cases h
end Go.Proofs.YtlappkflnlbfcaaGreatDoor.Bod
end

section
/- Matches, and flags, of the call's own that it writes into: what lies there. -/
namespace Go.Proofs.YtlappkflnlbfcaaGreatDoor.Bod
open Go.RowKit
set_option maxRecDepth 100000
set_option maxHeartbeats 1000000
set_option linter.unusedVariables false

/-- A match's cells. -/
def c2 (p : Int × Int) : List Value := [.int .i64 p.1, .int .i64 p.2]
theorem flat2 : ∀ (l : List (Int × Int)) (j i : Nat) (p : Int × Int), l[j]? = some p → i < 2 → (l.flatMap c2)[j * 2 + i]? = (c2 p)[i]?
  | [], j, i, p, h, _ => by simp at h
  | q :: l, 0, i, p, h, hi => by
    simp at h
    subst h
    rw [List.flatMap_cons, Nat.zero_mul, Nat.zero_add, List.getElem?_append_left (by simp [c2]; omega)]
  | q :: l, j + 1, i, p, h, hi => by
    rw [List.getElem?_cons_succ] at h
    rw [List.flatMap_cons, List.getElem?_append_right (by simp [c2]; omega), show (j + 1) * 2 + i - (c2 q).length = j * 2 + i from by simp [c2]; omega]
    exact flat2 l j i p h hi
theorem flat2_set : ∀ (l : List (Int × Int)) (j : Nat) (a b : Int), ((l.flatMap c2).set (j * 2) (.int .i64 a)).set (j * 2 + 1) (.int .i64 b) = if j < l.length then (l.set j (a, b)).flatMap c2 else l.flatMap c2
  | [], j, a, b => by simp
  | q :: l, 0, a, b => by simp [c2]
  | q :: l, j + 1, a, b => by
    have ih := flat2_set l j a b
    have e1 : (j + 1) * 2 = (j * 2 + 1) + 1 := by omega
    rw [List.flatMap_cons, e1]
    show ((c2 q ++ List.flatMap c2 l).set (j * 2 + 1 + 1) _).set (j * 2 + 1 + 1 + 1) _ = _
    simp only [c2, List.cons_append, List.nil_append, List.set_cons_succ]
    rw [ih]
    by_cases h : j < l.length
    · rw [if_pos h, if_pos (by simp; omega)]
      simp [c2]
    · rw [if_neg h, if_neg (by simp; omega)]
/-- Matches of the call's own. -/
def MAt (w : World) (B g n : Nat) (ms : List (Int × Int)) : Prop := ms.length = n ∧ w.ownsRow B 136 2 (.slice (some ⟨g, 0, none⟩) n n) n (ms.flatMap c2)
/-- Flags of the call's own. -/
def UAt (w : World) (B g n : Nat) (us : List Bool) : Prop := us.length = n ∧ w.ownsRow B 4 1 (.slice (some ⟨g, 0, none⟩) n n) n (us.map .bool)
theorem own_keep {w w' : World} {B e s n : Nat} {v : Value} {xs : List Value} (h : w.ownsRow B e s v n xs) (hb : Below w.heap.size w w') : w'.ownsRow B e s v n xs := by
  obtain ⟨h1, h2⟩ := h
  refine ⟨h1, ?_⟩
  rcases h2 with h2 | ⟨g, cap, cur, hv, hB, hc, hle, hm, hsz, ht⟩
  · exact .inl h2
  · refine .inr ⟨g, cap, cur, hv, hB, ?_, hle, hm, hsz, ht⟩
    rw [hb.block g (Array.getElem?_eq_some_iff.1 hc).1]
    exact hc
theorem MAt.keep {w w' : World} {B g n : Nat} {ms : List (Int × Int)} (h : MAt w B g n ms) (hb : Below w.heap.size w w') : MAt w' B g n ms := ⟨h.1, own_keep h.2 hb⟩
theorem UAt.keep {w w' : World} {B g n : Nat} {us : List Bool} (h : UAt w B g n us) (hb : Below w.heap.size w w') : UAt w' B g n us := ⟨h.1, own_keep h.2 hb⟩
theorem MAt.put {w : World} {B g n : Nat} {ms : List (Int × Int)} (h : MAt w B g n ms) (j : Nat) (hj : j < n) (a b : Int) : MAt ((w.setCell ⟨g, j * 2, none⟩ (.int .i64 a)).setCell ⟨g, j * 2 + 1, none⟩ (.int .i64 b)) B g n (ms.set j (a, b)) := by
  refine ⟨by rw [List.length_set]; exact h.1, ?_⟩
  have h1 := (h.2.stored (j * 2) (.int .i64 a)).1
  have h2 := (h1.stored (j * 2 + 1) (.int .i64 b)).1
  rw [flat2_set, if_pos (by rw [h.1]; exact hj)] at h2
  exact h2
theorem UAt.put {w : World} {B g n : Nat} {us : List Bool} (h : UAt w B g n us) (j : Nat) (b : Bool) : UAt (w.setCell ⟨g, j, none⟩ (.bool b)) B g n (us.set j b) := by
  refine ⟨by rw [List.length_set]; exact h.1, ?_⟩
  have h1 := (h.2.stored j (.bool b)).1
  rw [← List.map_set] at h1
  exact h1
theorem MAt.other {w : World} {B g n : Nat} {ms : List (Int × Int)} (h : MAt w B g n ms) {g' : Nat} (hg : g ≠ g') (o : Nat) (u : Value) : MAt (w.setCell ⟨g', o, none⟩ u) B g n ms := ⟨h.1, ownsRow_setCell_other h.2 (by simp [Value.ownBlock]; omega) u⟩
theorem UAt.other {w : World} {B g n : Nat} {us : List Bool} (h : UAt w B g n us) {g' : Nat} (hg : g ≠ g') (o : Nat) (u : Value) : UAt (w.setCell ⟨g', o, none⟩ u) B g n us := ⟨h.1, ownsRow_setCell_other h.2 (by simp [Value.ownBlock]; omega) u⟩
theorem MAt.cells {w : World} {B g n : Nat} {ms : List (Int × Int)} (h : MAt w B g n ms) {j : Nat} (hj : j < n) : w.cell? ⟨g, j * 2, none⟩ = some (.int .i64 (ms.getD j (0, 0)).1) ∧ w.cell? ⟨g, j * 2 + 1, none⟩ = some (.int .i64 (ms.getD j (0, 0)).2) := by
  obtain ⟨p, hp⟩ : ∃ p, ms[j]? = some p := ⟨_, List.getElem?_eq_getElem (by rw [h.1]; exact hj)⟩
  rw [List.getD_eq_getElem?_getD, hp, h.2.cellAt (j * 2) (by omega), h.2.cellAt (j * 2 + 1) (by omega)]
  have a := flat2 ms j 0 p hp (by decide)
  have b := flat2 ms j 1 p hp (by decide)
  rw [Nat.add_zero] at a
  rw [a, b]
  exact ⟨rfl, rfl⟩
theorem UAt.cell {w : World} {B g n : Nat} {us : List Bool} (h : UAt w B g n us) {j : Nat} (hj : j < n) : w.cell? ⟨g, j, none⟩ = some (.bool (us.getD j false)) := by
  obtain ⟨p, hp⟩ : ∃ p, us[j]? = some p := ⟨_, List.getElem?_eq_getElem (by rw [h.1]; exact hj)⟩
  rw [List.getD_eq_getElem?_getD, hp, h.2.cellAt j (by omega), List.getElem?_map, hp]
  rfl
theorem MAt.free {w : World} {B g n : Nat} {ms : List (Int × Int)} (h : MAt w B g n ms) (j : Nat) : w.frozen? ⟨g, j, none⟩ = false := h.2.frozenAt j
theorem UAt.free {w : World} {B g n : Nat} {us : List Bool} (h : UAt w B g n us) (j : Nat) : w.frozen? ⟨g, j, none⟩ = false := h.2.frozenAt j
theorem MAt.lt {w : World} {B g n : Nat} {ms : List (Int × Int)} (h : MAt w B g n ms) : B ≤ g ∧ g < w.heap.size := h.2.lt g rfl
theorem UAt.lt {w : World} {B g n : Nat} {us : List Bool} (h : UAt w B g n us) : B ≤ g ∧ g < w.heap.size := h.2.lt g rfl
/-- A match's two stores: what the walk asks at each. -/
theorem MAt.two {w : World} {B g n : Nat} {ms : List (Int × Int)} (h : MAt w B g n ms) {j : Nat} (hj : j < n) (u : Value) : ((∃ x, w.cell? ⟨g, j * 2, none⟩ = some x) ∧ w.frozen? ⟨g, j * 2, none⟩ = false) ∧ (∃ x, (w.setCell ⟨g, j * 2, none⟩ u).cell? ⟨g, j * 2 + 1, none⟩ = some x) ∧ (w.setCell ⟨g, j * 2, none⟩ u).frozen? ⟨g, j * 2 + 1, none⟩ = false := by
  have h1 := (h.2.stored (j * 2) u).1
  refine ⟨⟨⟨_, (h.cells hj).1⟩, h.free _⟩, ⟨.int .i64 (ms.getD j (0, 0)).2, ?_⟩, h1.frozenAt _⟩
  have e := (h.cells hj).2
  rw [h.2.cellAt (j * 2 + 1) (by omega)] at e
  rw [h1.cellAt (j * 2 + 1) (by omega), List.getElem?_set_ne (by omega)]
  exact e
theorem match_info : (Tryz.prog.info? 136).map (fun i => (i.zero, i.size, i.bytes)) = some (some (.agg #[.int .i64 0, .int .i64 0]), 2, 16) := by kernel_rfl
theorem bool_info : (Tryz.prog.info? 4).map (fun i => (i.zero, i.size, i.bytes)) = some (some (.bool false), 1, 1) := by kernel_rfl
theorem made_two (z : Value) (n : Nat) : (madeCells #[z, z] n).toList = List.replicate n z := by
  apply List.ext_getElem
  · simp [madeCells]
  · intro i h1 h2
    have h : i % 2 < 2 := Nat.mod_lt _ (by decide)
    simp only [madeCells, Array.getElem_toList, Array.getElem_map, Array.getElem_range, List.getElem_replicate]
    show #[z, z][i % 2]! = z
    rcases (by omega : i % 2 = 0 ∨ i % 2 = 1) with e | e <;> rw [e] <;> rfl
theorem flat_zero : ∀ n, (List.replicate n ((0 : Int), (0 : Int))).flatMap c2 = List.replicate (n * 2) (.int .i64 0)
  | 0 => rfl
  | n + 1 => by
    rw [List.replicate_succ, List.flatMap_cons, flat_zero n, show (n + 1) * 2 = n * 2 + 1 + 1 from by omega, List.replicate_succ, List.replicate_succ]
    rfl
/-- 'make' of matches. -/
theorem make_M (w : World) (B n : Nat) (hn : n ≤ 100000) (hB : B ≤ w.heap.size) : ∃ w' g, (Instr.makeSlice 100 (.int .i64 (n : Int)) (.int .i64 (n : Int))).run Tryz.prog w = .ok (.slice (some ⟨g, 0, none⟩) n n) w' ∧ MAt w' B g n (List.replicate n (0, 0)) ∧ w.grownBy w' none ∧ w.heap.size ≤ g := by
  obtain ⟨i, hi, hz0, hz1, hz2⟩ := info_parts match_info
  obtain ⟨w', h1, h2, h3⟩ := run_make_full (P := Tryz.prog) w B 100 136 i _ 2 Tryz.underlying100 hi hz0 hz1 .i64 .i64 n (by rw [hz2]; omega) (by unfold maxLen; omega) hB
  refine ⟨w', _, h1, ⟨by simp, ?_⟩, h3, Nat.le_refl _⟩
  have e : (madeCells (Value.agg #[.int .i64 0, .int .i64 0]).cells (n * 2)).toList = (List.replicate n ((0 : Int), (0 : Int))).flatMap c2 := by
    rw [flat_zero]
    exact made_two (.int .i64 0) (n * 2)
  rw [e] at h2
  exact h2
theorem make_U (w : World) (B n : Nat) (hn : n ≤ 100000) (hB : B ≤ w.heap.size) : ∃ w' g, (Instr.makeSlice 134 (.int .i64 (n : Int)) (.int .i64 (n : Int))).run Tryz.prog w = .ok (.slice (some ⟨g, 0, none⟩) n n) w' ∧ UAt w' B g n (List.replicate n false) ∧ w.grownBy w' none ∧ w.heap.size ≤ g := by
  obtain ⟨i, hi, hz0, hz1, hz2⟩ := info_parts bool_info
  obtain ⟨w', h1, h2, h3⟩ := run_make_full (P := Tryz.prog) w B 134 4 i _ 1 Tryz.underlying134 hi hz0 hz1 .i64 .i64 n (by rw [hz2]; omega) (by unfold maxLen; omega) hB
  refine ⟨w', _, h1, ⟨by simp, ?_⟩, h3, Nat.le_refl _⟩
  rw [show (Value.bool false).cells = #[Value.bool false] from rfl, Nat.mul_one, toList_madeCells_one] at h2
  simpa using h2
end Go.Proofs.YtlappkflnlbfcaaGreatDoor.Bod
end

section
/- Few instructions, by the document, walked. -/
namespace Go.Proofs.YtlappkflnlbfcaaGreatDoor.Bod
open Go.RowKit Ints Typ Ins
set_option maxRecDepth 100000
set_option maxHeartbeats 1000000
set_option linter.unusedVariables false

/-- Not many, none with many labels. -/
def FewB (l : List (Ins × Value)) (m : Int) : Prop := (l.length : Int) ≤ m ∧ ∀ p ∈ l, p.1.L.length ≤ 70
theorem few_any {l : List (Ins × Value)} {A : Option Addr} {n c : Nat} {w : World} (m : Int) (hn : l.length = n) (hr : InRow w (.slice A n c) l) :
    Calls Tryz.prog 20 #[.slice A n c, .int .i64 m] w fun e w' => (∃ b, e = .returned (.bool b) ∧ (b = true ↔ FewB l m)) ∧ w' = w := by
  have hbig : n ≤ 9223372036854775807 := by
    obtain ⟨⟨A, c', h1, h2, h3, _⟩, _⟩ := id hr
    injection h1 with _ h4 h5
    omega
  have HR := Lib.hid hr
  have HN := Lib.hid hn
  clear hr hn
  by_cases hm : m < (n : Int)
  · have t1 : decide (m < (n : Int)) = true := decide_eq_true hm
    have HNO : Hid (¬ FewB l m) := fun h => by have := h.1; rw [HN.out] at this; omega
    clear hm
    go_enter Tryz.func20, Tryz.ntmps20
    go_wp2_with fail
    exact bodyPost_ret (v := .bool false) (by simp [results, Tryz.results20, go_sem]) rfl ⟨by first | exact ⟨false, rfl, by simpa using HNO.out⟩ | exact .inl ⟨rfl, HNO.out⟩, rfl⟩
  · have t1 : decide (m < (n : Int)) = false := decide_eq_false hm
    have HM : Hid ((n : Int) ≤ m) := by show _ ≤ _; omega
    clear hm
    go_enter Tryz.func20, Tryz.ntmps20
    go_wp2_with fail
    clear t1
    go_loop [5] (fun i' => ∃ i : Nat, i' = .int .i64 (i : Int) ∧ i ≤ n ∧ ∀ q, q < i → ∀ p, l[q]? = some p → p.1.L.length ≤ 70) (fun i' => n - (intOf i').toNat)
    case atStart => exact ⟨0, by go_num, by omega, fun q hq => absurd hq (by omega)⟩
    case round =>
      obtain ⟨i, rfl, hi, hall⟩ := hrel
      have HALL := Lib.hid hall
      clear hall
      by_cases hlt : i < n
      · obtain ⟨y, hy⟩ : ∃ y, l[i]? = some y := ⟨_, List.getElem?_eq_getElem (by rw [HN.out]; exact hlt)⟩
        obtain ⟨g, off, hA, hC, hOk⟩ := HR.out.at_ hy
        subst hA
        obtain ⟨PL, cL, hpo, _⟩ := id hOk.1
        have HY := Lib.hid hy
        obtain ⟨x, ov⟩ := y
        simp only at hpo
        obtain ⟨nL, hnL⟩ : ∃ nL, x.L.length = nL := ⟨_, rfl⟩
        have HNL := Lib.hid hnL
        rw [hnL] at hpo
        subst hpo
        obtain ⟨q1, q2, q3, q4, q5⟩ := hC
        clear hOk hy hnL q1 q2 q3 q4
        simp only at q5
        have hin1 : (0 : Int) ≤ (i : Int) := by omega
        have hin2 : (i : Int) < (n : Int) := by omega
        have hw1 : IntKind.i64.wrap ((i : Int) + 1) = (i : Int) + 1 := IntWalk.i64_in _ (by omega)
        by_cases h70 : nL ≤ 70
        · have t2 : decide ((70 : Int) < (nL : Int)) = false := decide_eq_false (by omega)
          have HNX : Hid (∀ q, q < i + 1 → ∀ p, l[q]? = some p → p.1.L.length ≤ 70) := fun q hq p hp => by
            by_cases e : q = i
            · subst e
              have e2 := Option.some.inj (HY.out.symm.trans hp)
              subst e2
              show x.L.length ≤ 70
              rw [HNL.out]
              exact h70
            · exact HALL.out q (by omega) p hp
          clear h70
          go_wp2_with fail
          go_round
          case rel => exact ⟨i + 1, by go_num, hlt, HNX.out⟩
          case measure => simp [intOf]; omega
        · have t2 : decide ((70 : Int) < (nL : Int)) = true := decide_eq_true (by omega)
          have HNO : Hid (¬ FewB l m) := fun h => by
            have := h.2 _ (List.mem_of_getElem? HY.out)
            simp only at this
            rw [HNL.out] at this
            exact h70 this
          clear h70
          go_wp2_with fail
          exact bodyPost_ret (v := .bool false) (by simp [results, Tryz.results20, go_sem]) rfl ⟨by first | exact ⟨false, rfl, by simpa using HNO.out⟩ | exact .inl ⟨rfl, HNO.out⟩, rfl⟩
      · obtain rfl : i = n := by omega
        have HYES : Hid (FewB l m) := ⟨by rw [HN.out]; exact HM.out, fun p hp => by
          obtain ⟨q, hq⟩ := List.getElem?_of_mem hp
          exact HALL.out q (by have := (List.getElem?_eq_some_iff.1 hq).1; rwa [HN.out] at this) p hq⟩
        clear hlt
        go_wp2_with fail
        exact bodyPost_ret (v := .bool true) (by simp [results, Tryz.results20, go_sem]) rfl ⟨by first | exact ⟨true, rfl, by simpa using HYES.out⟩ | exact .inr ⟨rfl, HYES.out⟩, rfl⟩
end Go.Proofs.YtlappkflnlbfcaaGreatDoor.Bod
end
