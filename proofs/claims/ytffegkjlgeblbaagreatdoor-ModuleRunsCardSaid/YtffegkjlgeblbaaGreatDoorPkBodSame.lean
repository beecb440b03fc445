/- BodMath, BodNest, BodMAt, BodAround, BodDepth, BodTake, BodFew, BodSame. -/
import Derived.Test.YtffegkjlgeblbaaGreatDoorLebOne
import Derived.Deep.Slices
import Derived.Test.YtffegkjlgeblbaaGreatDoorPkInsStab
import Derived.Test.YtffegkjlgeblbaaGreatDoorPkInsSame
section
/- Instructions in one another, over codes alone: the document's way to an end, and the stack of what is open. Plain lists. -/
namespace Go.Proofs.YtffegkjlgeblbaaGreatDoor.Bod
set_option maxRecDepth 100000
set_option maxHeartbeats 1000000
set_option linter.unusedVariables false

/-- A block, a loop, an if? -/
def opn (op : Int) : Bool := decide (2 ≤ op) && decide (op ≤ 4)
/-- From a place on: the place of the end and of the else, of what opened there; how deep; the else so far. -/
def el (isIf : Bool) : List Int → Nat → Nat → Int → Int × Int
  | [], _, _, _ => (-1, -1)
  | op :: r, k, d, o =>
    if opn op then el isIf r (k + 1) (d + 1) o
    else if op = 5 ∧ d = 0 then (if 0 ≤ o ∨ isIf = false then (-1, -1) else el isIf r (k + 1) 0 (k : Int))
    else if op = 11 ∧ d = 0 then ((k : Int), o)
    else if op = 11 then el isIf r (k + 1) (d - 1) o
    else el isIf r (k + 1) d o
/-- The end and the else of what opens at a place, by the document. -/
def dEnd (ops : List Int) (k : Nat) : Int × Int := el (ops.getD k 0 == 4) (ops.drop (k + 1)) (k + 1) 0 (-1)
/-- What is open: the place, an if?, its else so far. -/
abbrev Stk := List (Nat × Bool × Int)
def stepS (p : Nat) (op : Int) (S : Stk) : Option Stk :=
  if opn op then some ((p, op == 4, -1) :: S)
  else if op = 5 then match S with
    | (k, true, o) :: S' => if o < 0 then some ((k, true, (p : Int)) :: S') else none
    | _ => none
  else if op = 11 then match S with
    | _ :: S' => some S'
    | [] => none
  else some S
def st (ops : List Int) : Nat → Option Stk
  | 0 => some []
  | p + 1 => (st ops p).bind fun S => stepS p (ops.getD p 0) S
theorem drop_cons {ops : List Int} {p : Nat} (h : p < ops.length) : ops.drop p = ops.getD p 0 :: ops.drop (p + 1) := by
  rw [List.drop_eq_getElem_cons h, List.getD_eq_getElem?_getD, List.getElem?_eq_getElem h]
  rfl
theorem st_succ {ops : List Int} {p : Nat} {S S' : Stk} (h : st ops p = some S) (h' : st ops (p + 1) = some S') : stepS p (ops.getD p 0) S = some S' := by
  have : st ops (p + 1) = (st ops p).bind fun S => stepS p (ops.getD p 0) S := rfl
  rw [this, h] at h'
  exact h'
theorem st_before {ops : List Int} {p : Nat} {S' : Stk} (h' : st ops (p + 1) = some S') : ∃ S, st ops p = some S := by
  have : st ops (p + 1) = (st ops p).bind fun S => stepS p (ops.getD p 0) S := rfl
  rw [this] at h'
  cases h : st ops p with
  | none => rw [h] at h'; cases h'
  | some S => exact ⟨S, rfl⟩
/-- What is open at a place: its end is looked for from there on, as deep as what is open above it. -/
def Held (ops : List Int) (p : Nat) (S : Stk) : Prop :=
  ∀ (S1 S2 : Stk) (k : Nat) (f : Bool) (o : Int), S = S1 ++ (k, f, o) :: S2 → k < p ∧ opn (ops.getD k 0) = true ∧ f = (ops.getD k 0 == 4) ∧ o < (p : Int) ∧ (o < 0 → o = -1) ∧ (0 ≤ o → (k : Int) < o ∧ ops.getD o.toNat 0 = 5) ∧ dEnd ops k = el f (ops.drop p) p S1.length o
theorem held_step {ops : List Int} {p : Nat} {S S' : Stk} (hp : p < ops.length) (hH : Held ops p S) (h : stepS p (ops.getD p 0) S = some S') : Held ops (p + 1) S' := by
  have hd := drop_cons hp
  unfold stepS at h
  by_cases h1 : opn (ops.getD p 0) = true
  · rw [if_pos h1] at h
    obtain rfl := Option.some.inj h
    intro S1 S2 k f o e
    cases S1 with
    | nil =>
      simp only [List.nil_append, List.cons.injEq, Prod.mk.injEq] at e
      obtain ⟨⟨rfl, rfl, rfl⟩, rfl⟩ := e
      exact ⟨by omega, h1, rfl, by omega, fun _ => rfl, fun hh => absurd hh (by omega), rfl⟩
    | cons a S1 =>
      simp only [List.cons_append, List.cons.injEq] at e
      obtain ⟨rfl, e⟩ := e
      obtain ⟨g1, g2, g3, g4, g5, g7, g6⟩ := hH S1 S2 k f o e
      refine ⟨by omega, g2, g3, by omega, g5, g7, ?_⟩
      rw [g6, hd, el, if_pos h1]
      rfl
  · rw [if_neg h1] at h
    by_cases h2 : ops.getD p 0 = 5
    · rw [if_pos h2] at h
      cases S with
      | nil => cases h
      | cons a S =>
        obtain ⟨k0, f0, o0⟩ := a
        cases f0 with
        | false => cases h
        | true =>
          simp only at h
          by_cases h3 : o0 < 0
          · rw [if_pos h3] at h
            obtain rfl := Option.some.inj h
            intro S1 S2 k f o e
            cases S1 with
            | nil =>
              simp only [List.nil_append, List.cons.injEq, Prod.mk.injEq] at e
              obtain ⟨⟨rfl, rfl, rfl⟩, rfl⟩ := e
              obtain ⟨g1, g2, g3, g4, g5, g7, g6⟩ := hH [] S k0 true o0 rfl
              refine ⟨by omega, g2, g3, by omega, fun hh => by omega, fun _ => ⟨by omega, by rw [Int.toNat_natCast]; exact h2⟩, ?_⟩
              rw [g6, hd, el, if_neg h1, if_pos ⟨h2, rfl⟩, if_neg (by simp; omega)]
              rfl
            | cons b S1 =>
              simp only [List.cons_append, List.cons.injEq] at e
              obtain ⟨rfl, e⟩ := e
              obtain ⟨g1, g2, g3, g4, g5, g7, g6⟩ := hH ((k0, true, o0) :: S1) S2 k f o (by rw [e]; rfl)
              refine ⟨by omega, g2, g3, by omega, g5, g7, ?_⟩
              rw [g6, hd, el, if_neg h1, if_neg (by simp), if_neg (by simp), if_neg (by omega)]
              rfl
          · rw [if_neg h3] at h; cases h
    · rw [if_neg h2] at h
      by_cases h3 : ops.getD p 0 = 11
      · rw [if_pos h3] at h
        cases S with
        | nil => cases h
        | cons a S =>
          simp only at h
          obtain rfl := Option.some.inj h
          intro S1 S2 k f o e
          obtain ⟨g1, g2, g3, g4, g5, g7, g6⟩ := hH (a :: S1) S2 k f o (by rw [e]; rfl)
          refine ⟨by omega, g2, g3, by omega, g5, g7, ?_⟩
          rw [g6, hd, el, if_neg h1, if_neg (by simp), if_neg (by simp), if_pos h3]
          rfl
      · rw [if_neg h3] at h
        obtain rfl := Option.some.inj h
        intro S1 S2 k f o e
        obtain ⟨g1, g2, g3, g4, g5, g7, g6⟩ := hH S1 S2 k f o e
        refine ⟨by omega, g2, g3, by omega, g5, g7, ?_⟩
        rw [g6, hd, el, if_neg h1, if_neg (fun q => h2 q.1), if_neg (fun q => h3 q.1), if_neg h3]
theorem held (ops : List Int) : ∀ {p : Nat} {S : Stk}, p ≤ ops.length → st ops p = some S → Held ops p S
  | 0, S, _, h => by
    obtain rfl := Option.some.inj h
    intro S1 S2 k f o e
    cases S1 <;> simp at e
  | p + 1, S, hp, h => by
    obtain ⟨S0, h0⟩ := st_before h
    exact held_step (by omega) (held ops (by omega) h0) (st_succ h0 h)
/-- Openers ahead of a place: open still, or ended ahead of it. -/
def Closed (ops : List Int) (p k : Nat) : Prop := ∃ (e : Nat) (o : Int), dEnd ops k = ((e : Int), o) ∧ k < e ∧ e < p ∧ ops.getD e 0 = 11 ∧ o < (e : Int) ∧ (o < 0 → o = -1) ∧ (0 ≤ o → (k : Int) < o ∧ ops.getD o.toNat 0 = 5)
end Go.Proofs.YtffegkjlgeblbaaGreatDoor.Bod
end

section
/- The document's Matches over codes: it answers just where all is nested, as the stack tells. Plain lists. -/
namespace Go.Proofs.YtffegkjlgeblbaaGreatDoor.Bod
set_option maxRecDepth 100000
set_option maxHeartbeats 1000000
set_option linter.unusedVariables false

/-- One more that opens: where its parts are, and that these are used. -/
def mst (ops : List Int) (k : Nat) (s : List (Int × Int) × List Bool) : Option (List (Int × Int) × List Bool) :=
  if opn (ops.getD k 0) then
    if (dEnd ops k).1 < 0 then none
    else if 0 ≤ (dEnd ops k).2 then some ((s.1.set k ((dEnd ops k).2, (dEnd ops k).1)).set (dEnd ops k).2.toNat (-1, (dEnd ops k).1), (s.2.set (dEnd ops k).1.toNat true).set (dEnd ops k).2.toNat true)
    else some (s.1.set k ((dEnd ops k).2, (dEnd ops k).1), s.2.set (dEnd ops k).1.toNat true)
  else some s
def m2 (ops : List Int) : Nat → Option (List (Int × Int) × List Bool)
  | 0 => some (List.replicate ops.length (-1, -1), List.replicate ops.length false)
  | k + 1 => (m2 ops k).bind (mst ops k)
end Go.Proofs.YtffegkjlgeblbaaGreatDoor.Bod
end

section
/- Matches, and flags, of the call's own that it writes into: what lies there. -/
namespace Go.Proofs.YtffegkjlgeblbaaGreatDoor.Bod
open Go.RowKit
set_option maxRecDepth 100000
set_option maxHeartbeats 1000000
set_option linter.unusedVariables false

/-- A match's cells. -/
def c2 (p : Int × Int) : List Value := [.int .i64 p.1, .int .i64 p.2]
theorem flat2 : ∀ (l : List (Int × Int)) (j i : Nat) (p : Int × Int), l[j]? = some p → i < 2 → (l.flatMap c2)[j * 2 + i]? = (c2 p)[i]?
  | [], j, i, p, h, _ => by simp at h
  | q :: l, 0, i, p, h, hi => by
    simp at h
    subst h
    rw [List.flatMap_cons, Nat.zero_mul, Nat.zero_add, List.getElem?_append_left (by simp [c2]; omega)]
  | q :: l, j + 1, i, p, h, hi => by
    rw [List.getElem?_cons_succ] at h
    rw [List.flatMap_cons, List.getElem?_append_right (by simp [c2]; omega), show (j + 1) * 2 + i - (c2 q).length = j * 2 + i from by simp [c2]; omega]
    exact flat2 l j i p h hi
theorem flat2_set : ∀ (l : List (Int × Int)) (j : Nat) (a b : Int), ((l.flatMap c2).set (j * 2) (.int .i64 a)).set (j * 2 + 1) (.int .i64 b) = if j < l.length then (l.set j (a, b)).flatMap c2 else l.flatMap c2
  | [], j, a, b => by simp
  | q :: l, 0, a, b => by simp [c2]
  | q :: l, j + 1, a, b => by
    have ih := flat2_set l j a b
    have e1 : (j + 1) * 2 = (j * 2 + 1) + 1 := by omega
    rw [List.flatMap_cons, e1]
    show ((c2 q ++ List.flatMap c2 l).set (j * 2 + 1 + 1) _).set (j * 2 + 1 + 1 + 1) _ = _
    simp only [c2, List.cons_append, List.nil_append, List.set_cons_succ]
    rw [ih]
    by_cases h : j < l.length
    · rw [if_pos h, if_pos (by simp; omega)]
      simp [c2]
    · rw [if_neg h, if_neg (by simp; omega)]
/-- Matches of the call's own. -/
def MAt (w : World) (B g n : Nat) (ms : List (Int × Int)) : Prop := ms.length = n ∧ w.ownsRow B 268 2 (.slice (some ⟨g, 0, none⟩) n n) n (ms.flatMap c2)
/-- Flags of the call's own. -/
def UAt (w : World) (B g n : Nat) (us : List Bool) : Prop := us.length = n ∧ w.ownsRow B 4 1 (.slice (some ⟨g, 0, none⟩) n n) n (us.map .bool)
theorem own_keep {w w' : World} {B e s n : Nat} {v : Value} {xs : List Value} (h : w.ownsRow B e s v n xs) (hb : Below w.heap.size w w') : w'.ownsRow B e s v n xs := by
  obtain ⟨h1, h2⟩ := h
  refine ⟨h1, ?_⟩
  rcases h2 with h2 | ⟨g, cap, cur, hv, hB, hc, hle, hm, hsz, ht⟩
  · exact .inl h2
  · refine .inr ⟨g, cap, cur, hv, hB, ?_, hle, hm, hsz, ht⟩
    rw [hb.block g (Array.getElem?_eq_some_iff.1 hc).1]
    exact hc
theorem MAt.keep {w w' : World} {B g n : Nat} {ms : List (Int × Int)} (h : MAt w B g n ms) (hb : Below w.heap.size w w') : MAt w' B g n ms := ⟨h.1, own_keep h.2 hb⟩
theorem UAt.keep {w w' : World} {B g n : Nat} {us : List Bool} (h : UAt w B g n us) (hb : Below w.heap.size w w') : UAt w' B g n us := ⟨h.1, own_keep h.2 hb⟩
theorem MAt.put {w : World} {B g n : Nat} {ms : List (Int × Int)} (h : MAt w B g n ms) (j : Nat) (hj : j < n) (a b : Int) : MAt ((w.setCell ⟨g, j * 2, none⟩ (.int .i64 a)).setCell ⟨g, j * 2 + 1, none⟩ (.int .i64 b)) B g n (ms.set j (a, b)) := by
  refine ⟨by rw [List.length_set]; exact h.1, ?_⟩
  have h1 := (h.2.stored (j * 2) (.int .i64 a)).1
  have h2 := (h1.stored (j * 2 + 1) (.int .i64 b)).1
  rw [flat2_set, if_pos (by rw [h.1]; exact hj)] at h2
  exact h2
theorem UAt.put {w : World} {B g n : Nat} {us : List Bool} (h : UAt w B g n us) (j : Nat) (b : Bool) : UAt (w.setCell ⟨g, j, none⟩ (.bool b)) B g n (us.set j b) := by
  refine ⟨by rw [List.length_set]; exact h.1, ?_⟩
  have h1 := (h.2.stored j (.bool b)).1
  rw [← List.map_set] at h1
  exact h1
theorem MAt.cells {w : World} {B g n : Nat} {ms : List (Int × Int)} (h : MAt w B g n ms) {j : Nat} (hj : j < n) : w.cell? ⟨g, j * 2, none⟩ = some (.int .i64 (ms.getD j (0, 0)).1) ∧ w.cell? ⟨g, j * 2 + 1, none⟩ = some (.int .i64 (ms.getD j (0, 0)).2) := by
  obtain ⟨p, hp⟩ : ∃ p, ms[j]? = some p := ⟨_, List.getElem?_eq_getElem (by rw [h.1]; exact hj)⟩
  rw [List.getD_eq_getElem?_getD, hp, h.2.cellAt (j * 2) (by omega), h.2.cellAt (j * 2 + 1) (by omega)]
  have a := flat2 ms j 0 p hp (by decide)
  have b := flat2 ms j 1 p hp (by decide)
  rw [Nat.add_zero] at a
  rw [a, b]
  exact ⟨rfl, rfl⟩
theorem UAt.cell {w : World} {B g n : Nat} {us : List Bool} (h : UAt w B g n us) {j : Nat} (hj : j < n) : w.cell? ⟨g, j, none⟩ = some (.bool (us.getD j false)) := by
  obtain ⟨p, hp⟩ : ∃ p, us[j]? = some p := ⟨_, List.getElem?_eq_getElem (by rw [h.1]; exact hj)⟩
  rw [List.getD_eq_getElem?_getD, hp, h.2.cellAt j (by omega), List.getElem?_map, hp]
  rfl
theorem MAt.lt {w : World} {B g n : Nat} {ms : List (Int × Int)} (h : MAt w B g n ms) : B ≤ g ∧ g < w.heap.size := h.2.lt g rfl
theorem UAt.lt {w : World} {B g n : Nat} {us : List Bool} (h : UAt w B g n us) : B ≤ g ∧ g < w.heap.size := h.2.lt g rfl
end Go.Proofs.YtffegkjlgeblbaaGreatDoor.Bod
end

section
/- What an instruction stands in, by the document and by the stack. Plain lists. -/
namespace Go.Proofs.YtffegkjlgeblbaaGreatDoor.Bod
set_option maxRecDepth 100000
set_option maxHeartbeats 1000000
set_option linter.unusedVariables false

/-- The stack at a place. -/
def sAt (ops : List Int) (p : Nat) : Stk := (st ops p).getD []
/-- What an instruction stands in: the stack, without what an else or an end belongs to. -/
def sIn (ops : List Int) (p : Nat) : Stk := if ops.getD p 0 = 5 ∨ ops.getD p 0 = 11 then (sAt ops p).tail else sAt ops p
end Go.Proofs.YtffegkjlgeblbaaGreatDoor.Bod
end

section
/- How deep each is, by the document, walked. -/
namespace Go.Proofs.YtffegkjlgeblbaaGreatDoor.Bod
open Go.RowKit Ints Typ Ins
set_option maxRecDepth 100000
set_option maxHeartbeats 1000000
set_option linter.unusedVariables false

/-- The places of what an instruction stands in, the innermost one first. -/
def aroundD (ops : List Int) (p : Nat) : List Int := (sIn ops p).map fun a => (a.1 : Int)
/-- How deep each is. -/
def depL (ops : List Int) (i : Nat) : List Int := (List.range i).map fun p => ((aroundD ops p).length : Int)
end Go.Proofs.YtffegkjlgeblbaaGreatDoor.Bod
end

section
/- What the program's nest holds after each instruction: over codes alone, and that it is what the document's Matches says. Plain lists. -/
namespace Go.Proofs.YtffegkjlgeblbaaGreatDoor.Bod
set_option maxRecDepth 100000
set_option maxHeartbeats 1000000
set_option linter.unusedVariables false

/-- Matches, depths, and the stack of what is open: a code and its place, the innermost one last. -/
structure Nst where
  M : List (Int × Int)
  D : List Int
  S : List (Int × Nat)
def depO (op : Int) (n : Nst) : Int := if op = 5 ∨ op = 11 then (n.S.length : Int) - 1 else (n.S.length : Int)
def tkTurn (a : Nat) (n : Nst) : Option Nst := match n.S.getLast? with
  | none => none
  | some x => if x.1 ≠ 4 ∨ (n.M.getD x.2 (0, 0)).1 ≠ -1 then none else some ⟨n.M.set x.2 ((a : Int), (n.M.getD x.2 (0, 0)).2), n.D, n.S⟩
def endM (a k : Nat) (M : List (Int × Int)) : List (Int × Int) :=
  if (M.getD k (0, 0)).1 = -1 then M.set k ((M.getD k (0, 0)).1, (a : Int))
  else (M.set k ((M.getD k (0, 0)).1, (a : Int))).set (M.getD k (0, 0)).1.toNat (((M.set k ((M.getD k (0, 0)).1, (a : Int))).getD (M.getD k (0, 0)).1.toNat (0, 0)).1, (a : Int))
def tkEnd (a : Nat) (n : Nst) : Option Nst := match n.S.getLast? with
  | none => none
  | some x => some ⟨endM a x.2 n.M, n.D, n.S.dropLast⟩
def tk1 (op : Int) (n : Nst) : Nst := ⟨n.M ++ [(-1, -1)], n.D ++ [depO op n], n.S⟩
def tk (op : Int) (n : Nst) : Option Nst :=
  if opn op then some ⟨(tk1 op n).M, (tk1 op n).D, n.S ++ [(op, n.M.length)]⟩
  else if op = 5 then tkTurn n.M.length (tk1 op n)
  else if op = 11 then tkEnd n.M.length (tk1 op n)
  else some (tk1 op n)
/-- What the stores ask: places that are there. -/
structure NOk (n : Nst) : Prop where
  len : n.D.length = n.M.length
  stk : ∀ x ∈ n.S, x.2 < n.M.length
  fst : ∀ y ∈ n.M, y.1 = -1 ∨ (0 ≤ y.1 ∧ y.1 < (n.M.length : Int))
theorem mem_setI {α : Type} {l : List α} {i : Nat} {a y : α} (h : y ∈ l.set i a) : y ∈ l ∨ y = a := List.mem_or_eq_of_mem_set h
theorem getD_mem {α : Type} {l : List α} {i : Nat} (d : α) (h : i < l.length) : l.getD i d ∈ l := by
  rw [List.getD_eq_getElem?_getD, List.getElem?_eq_getElem h]
  exact List.getElem_mem h
theorem NOk.one {n : Nst} (h : NOk n) (op : Int) : NOk (tk1 op n) := by
  refine ⟨by simp [tk1, h.len], fun x hx => ?_, fun y hy => ?_⟩
  · have := h.stk x hx
    simp only [tk1, List.length_append, List.length_cons, List.length_nil]
    omega
  · simp only [tk1, List.length_append, List.length_cons, List.length_nil]
    rcases List.mem_append.1 hy with hy | hy
    · rcases h.fst y hy with e | e
      · exact .inl e
      · exact .inr ⟨e.1, by omega⟩
    · simp at hy
      subst hy
      exact .inl rfl
theorem last_mem {α : Type} {l : List α} {x : α} (h : l.getLast? = some x) : x ∈ l := List.mem_of_getLast? h
theorem NOk.step {n n' : Nst} {op : Int} (h : NOk n) (ht : tk op n = some n') : NOk n' := by
  have h1 := h.one op
  have hl : (tk1 op n).M.length = n.M.length + 1 := by simp [tk1]
  unfold tk at ht
  split at ht
  · obtain rfl := Option.some.inj ht
    refine ⟨h1.len, fun x hx => ?_, h1.fst⟩
    rcases List.mem_append.1 hx with hx | hx
    · exact h1.stk x hx
    · simp at hx
      subst hx
      show n.M.length < (tk1 op n).M.length
      omega
  · split at ht
    · unfold tkTurn at ht
      split at ht
      · cases ht
      · rename_i x hx
        split at ht
        · cases ht
        · obtain rfl := Option.some.inj ht
          refine ⟨by simp [h1.len], fun y hy => by simpa using h1.stk y hy, fun y hy => ?_⟩
          simp only [List.length_set]
          rcases mem_setI hy with hy | rfl
          · exact h1.fst y hy
          · exact .inr ⟨by simp, by simp only; omega⟩
    · split at ht
      · unfold tkEnd at ht
        split at ht
        · cases ht
        · rename_i x hx
          obtain rfl := Option.some.inj ht
          have hk := h1.stk x (last_mem hx)
          have he : (endM n.M.length x.2 (tk1 op n).M).length = (tk1 op n).M.length := by unfold endM; split <;> simp
          have hf := h1.fst _ (getD_mem (0, 0) hk)
          refine ⟨by simp only [he]; exact h1.len, fun y hy => ?_, fun y hy => ?_⟩
          · simp only [he]
            exact h1.stk y (List.dropLast_subset (tk1 op n).S hy)
          · simp only [he]
            simp only [endM] at hy
            split at hy
            · rcases mem_setI hy with hy | rfl
              · exact h1.fst y hy
              · exact hf
            · rename_i hne
              rcases mem_setI hy with hy | rfl
              · rcases mem_setI hy with hy | rfl
                · exact h1.fst y hy
                · exact hf
              · have hlt : ((tk1 op n).M.getD x.2 (0, 0)).1.toNat < ((tk1 op n).M.set x.2 (((tk1 op n).M.getD x.2 (0, 0)).1, (n.M.length : Int))).length := by
                  rw [List.length_set]
                  rcases hf with e | e
                  · exact absurd e hne
                  · omega
                rcases mem_setI (getD_mem (0, 0) hlt) with hy | hy
                · have := h1.fst _ hy
                  exact this
                · rw [hy]; exact hf
      · obtain rfl := Option.some.inj ht
        exact h1
/-- What the nest holds, by what is open there. -/
structure NInv (ops : List Int) (p : Nat) (S : Stk) (n : Nst) : Prop where
  len : n.M.length = p
  dep : n.D = depL ops p
  stk : n.S = (S.map fun x => (ops.getD x.1 0, x.1)).reverse
  srt : S.Pairwise fun x y => y.1 < x.1 ∧ y.2.2 < (x.1 : Int)
  opm : ∀ x ∈ S, n.M.getD x.1 (0, 0) = (x.2.2, -1)
  els : ∀ x ∈ S, 0 ≤ x.2.2 → n.M.getD x.2.2.toNat (0, 0) = (-1, -1)
  cls : ∀ k, k < p → opn (ops.getD k 0) = true → Closed ops p k → n.M.getD k (0, 0) = ((dEnd ops k).2, (dEnd ops k).1)
  ces : ∀ k, k < p → opn (ops.getD k 0) = true → Closed ops p k → 0 ≤ (dEnd ops k).2 → n.M.getD (dEnd ops k).2.toNat (0, 0) = (-1, (dEnd ops k).1)
  oth : ∀ q, q < p → ¬ opn (ops.getD q 0) = true → (∀ k, k < p → opn (ops.getD k 0) = true → Closed ops p k → (dEnd ops k).2 ≠ (q : Int)) → n.M.getD q (0, 0) = (-1, -1)
theorem getD_app1 {α : Type} {l : List α} {x d : α} {i : Nat} (h : i < l.length) : (l ++ [x]).getD i d = l.getD i d := by
  rw [List.getD_eq_getElem?_getD, List.getD_eq_getElem?_getD, List.getElem?_append_left h]
theorem getD_app2 {α : Type} {l : List α} {x d : α} : (l ++ [x]).getD l.length d = x := by
  rw [List.getD_eq_getElem?_getD, List.getElem?_append_right (Nat.le_refl _)]
  simp
/-- What is appended is (-1, -1): all else is as it was. -/
theorem NInv.one {ops : List Int} {p : Nat} {S : Stk} {n : Nst} (hp : p < ops.length) (h0 : st ops p = some S) (I : NInv ops p S n) : (n.M ++ [((-1 : Int), (-1 : Int))]).length = p + 1 ∧ (n.M ++ [((-1 : Int), (-1 : Int))]).getD p (0, 0) = (-1, -1) ∧ (∀ x ∈ S, (n.M ++ [((-1 : Int), (-1 : Int))]).getD x.1 (0, 0) = (x.2.2, -1)) ∧ (∀ x ∈ S, 0 ≤ x.2.2 → (n.M ++ [((-1 : Int), (-1 : Int))]).getD x.2.2.toNat (0, 0) = (-1, -1)) ∧ (∀ k, k < p → opn (ops.getD k 0) = true → Closed ops p k → (n.M ++ [((-1 : Int), (-1 : Int))]).getD k (0, 0) = ((dEnd ops k).2, (dEnd ops k).1)) ∧ (∀ k, k < p → opn (ops.getD k 0) = true → Closed ops p k → 0 ≤ (dEnd ops k).2 → (dEnd ops k).2.toNat < p ∧ (n.M ++ [((-1 : Int), (-1 : Int))]).getD (dEnd ops k).2.toNat (0, 0) = (-1, (dEnd ops k).1)) ∧ (∀ q, q < p + 1 → ¬ opn (ops.getD q 0) = true → (∀ k, k < p → opn (ops.getD k 0) = true → Closed ops p k → (dEnd ops k).2 ≠ (q : Int)) → (n.M ++ [((-1 : Int), (-1 : Int))]).getD q (0, 0) = (-1, -1)) := by
  have hl := I.len
  have hH := held ops (by omega) h0
  have key : ∀ i, i < p → (n.M ++ [((-1 : Int), (-1 : Int))]).getD i (0, 0) = n.M.getD i (0, 0) := fun i hi => getD_app1 (by omega)
  have keyp : (n.M ++ [((-1 : Int), (-1 : Int))]).getD p (0, 0) = (-1, -1) := by rw [← hl]; exact getD_app2
  have hx : ∀ x ∈ S, x.1 < p ∧ x.2.2 < (p : Int) := fun x hx => by
    obtain ⟨S1, S2, e⟩ := List.append_of_mem hx
    obtain ⟨k, f, o⟩ := x
    obtain ⟨g1, g2, g3, g4, _⟩ := hH S1 S2 k f o e
    exact ⟨g1, g4⟩
  refine ⟨by simp [hl], keyp, fun x h => ?_, fun x h h1 => ?_, fun k h1 h2 h3 => ?_, fun k h1 h2 h3 h4 => ?_, fun q h1 h2 h3 => ?_⟩
  · rw [key _ (hx x h).1]; exact I.opm x h
  · rw [key _ (by have := (hx x h).2; omega)]; exact I.els x h h1
  · rw [key _ h1]; exact I.cls k h1 h2 h3
  · obtain ⟨e, o, c1, c2, c3, c4, c5, _⟩ := id h3
    have hlt : (dEnd ops k).2.toNat < p := by rw [c1]; simp only; omega
    exact ⟨hlt, by rw [key _ hlt]; exact I.ces k h1 h2 h3 h4⟩
  · by_cases e : q = p
    · subst e; exact keyp
    · rw [key _ (by omega)]; exact I.oth q (by omega) h2 h3
end Go.Proofs.YtffegkjlgeblbaaGreatDoor.Bod
end

section
/- Few instructions, by the document, walked. -/
namespace Go.Proofs.YtffegkjlgeblbaaGreatDoor.Bod
open Go.RowKit Ints Typ Ins
set_option maxRecDepth 100000
set_option maxHeartbeats 1000000
set_option linter.unusedVariables false

/-- Not many, none with many labels. -/
def FewB (l : List (Ins × Value)) (m : Int) : Prop := (l.length : Int) ≤ m ∧ ∀ p ∈ l, p.1.L.length ≤ 70
theorem few_any {l : List (Ins × Value)} {A : Option Addr} {n c : Nat} {w : World} (m : Int) (hn : l.length = n) (hr : InRow w (.slice A n c) l) :
    Calls Tryz.prog 92 #[.slice A n c, .int .i64 m] w fun e w' => (∃ b, e = .returned (.bool b) ∧ (b = true ↔ FewB l m)) ∧ w' = w := by
  have hbig : n ≤ 9223372036854775807 := by
    obtain ⟨⟨A, c', h1, h2, h3, _⟩, _⟩ := id hr
    injection h1 with _ h4 h5
    omega
  have HR := Lib.hid hr
  have HN := Lib.hid hn
  clear hr hn
  by_cases hm : m < (n : Int)
  · have t1 : decide (m < (n : Int)) = true := decide_eq_true hm
    have HNO : Hid (¬ FewB l m) := fun h => by have := h.1; rw [HN.out] at this; omega
    clear hm
    go_enter Tryz.func92, Tryz.ntmps92
    go_wp2_with fail
    exact bodyPost_ret (v := .bool false) (by simp [results, Tryz.results92, go_sem]) rfl ⟨by first | exact ⟨false, rfl, by simpa using HNO.out⟩ | exact .inl ⟨rfl, HNO.out⟩, rfl⟩
  · have t1 : decide (m < (n : Int)) = false := decide_eq_false hm
    have HM : Hid ((n : Int) ≤ m) := by show _ ≤ _; omega
    clear hm
    go_enter Tryz.func92, Tryz.ntmps92
    go_wp2_with fail
    clear t1
    go_loop [5] (fun i' => ∃ i : Nat, i' = .int .i64 (i : Int) ∧ i ≤ n ∧ ∀ q, q < i → ∀ p, l[q]? = some p → p.1.L.length ≤ 70) (fun i' => n - (intOf i').toNat)
    case atStart => exact ⟨0, by go_num, by omega, fun q hq => absurd hq (by omega)⟩
    case round =>
      obtain ⟨i, rfl, hi, hall⟩ := hrel
      have HALL := Lib.hid hall
      clear hall
      by_cases hlt : i < n
      · obtain ⟨y, hy⟩ : ∃ y, l[i]? = some y := ⟨_, List.getElem?_eq_getElem (by rw [HN.out]; exact hlt)⟩
        obtain ⟨g, off, hA, hC, hOk⟩ := HR.out.at_ hy
        subst hA
        obtain ⟨PL, cL, hpo, _⟩ := id hOk.1
        have HY := Lib.hid hy
        obtain ⟨x, ov⟩ := y
        simp only at hpo
        obtain ⟨nL, hnL⟩ : ∃ nL, x.L.length = nL := ⟨_, rfl⟩
        have HNL := Lib.hid hnL
        rw [hnL] at hpo
        subst hpo
        obtain ⟨q1, q2, q3, q4, q5⟩ := hC
        clear hOk hy hnL q1 q2 q3 q4
        simp only at q5
        have hin1 : (0 : Int) ≤ (i : Int) := by omega
        have hin2 : (i : Int) < (n : Int) := by omega
        have hw1 : IntKind.i64.wrap ((i : Int) + 1) = (i : Int) + 1 := IntWalk.i64_in _ (by omega)
        by_cases h70 : nL ≤ 70
        · have t2 : decide ((70 : Int) < (nL : Int)) = false := decide_eq_false (by omega)
          have HNX : Hid (∀ q, q < i + 1 → ∀ p, l[q]? = some p → p.1.L.length ≤ 70) := fun q hq p hp => by
            by_cases e : q = i
            · subst e
              have e2 := Option.some.inj (HY.out.symm.trans hp)
              subst e2
              show x.L.length ≤ 70
              rw [HNL.out]
              exact h70
            · exact HALL.out q (by omega) p hp
          clear h70
          go_wp2_with fail
          go_round
          case rel => exact ⟨i + 1, by go_num, hlt, HNX.out⟩
          case measure => simp [intOf]; omega
        · have t2 : decide ((70 : Int) < (nL : Int)) = true := decide_eq_true (by omega)
          have HNO : Hid (¬ FewB l m) := fun h => by
            have := h.2 _ (List.mem_of_getElem? HY.out)
            simp only at this
            rw [HNL.out] at this
            exact h70 this
          clear h70
          go_wp2_with fail
          exact bodyPost_ret (v := .bool false) (by simp [results, Tryz.results92, go_sem]) rfl ⟨by first | exact ⟨false, rfl, by simpa using HNO.out⟩ | exact .inl ⟨rfl, HNO.out⟩, rfl⟩
      · obtain rfl : i = n := by omega
        have HYES : Hid (FewB l m) := ⟨by rw [HN.out]; exact HM.out, fun p hp => by
          obtain ⟨q, hq⟩ := List.getElem?_of_mem hp
          exact HALL.out q (by have := (List.getElem?_eq_some_iff.1 hq).1; rwa [HN.out] at this) p hq⟩
        clear hlt
        go_wp2_with fail
        exact bodyPost_ret (v := .bool true) (by simp [results, Tryz.results92, go_sem]) rfl ⟨by first | exact ⟨true, rfl, by simpa using HYES.out⟩ | exact .inr ⟨rfl, HYES.out⟩, rfl⟩
end Go.Proofs.YtffegkjlgeblbaaGreatDoor.Bod
end

section
/- Instructions the same, by the document, walked. -/
namespace Go.Proofs.YtffegkjlgeblbaaGreatDoor.Bod
open Go.RowKit Ints Typ Ins
set_option maxRecDepth 100000
set_option maxHeartbeats 1000000
set_option linter.unusedVariables false

/-- The instructions of a row. -/
def insL (l : List (Ins × Value)) : List Ins := l.map (·.1)
end Go.Proofs.YtffegkjlgeblbaaGreatDoor.Bod
end
