/- BodReadM, BodNst, BodAppend, BodSane, BodTurn, BodTurnC, BodGone, BodAroundP, BodReadP, BodPutP. -/
import Derived.Test.YtffegkjlgeblbaaGreatDoorPkBodSame
import Derived.Test.YtffegkjlgeblbaaGreatDoorPkInsStab
import Derived.Test.YtffegkjlgeblbaaGreatDoorPkInsPTabs
import Derived.WalkSmall
import Derived.Test.YtffegkjlgeblbaaGreatDoorPkInsPReader
import Derived.Deep.QuietTactic
import Derived.BigQuiet
import Derived.RegionTactic
import Derived.ChangeAlike
import Derived.Deep.RegionLaw
import Derived.Deep.CutRange
import Derived.Test.YtffegkjlgeblbaaGreatDoorPkInsSame
import Derived.Test.YtffegkjlgeblbaaGreatDoorStabAll
import Derived.WalkMore
import Derived.Lib.LazyBuf
section
/- The document's Read of a body, over instructions read one by one; and rows kept beside rows. -/
namespace Go.Proofs.YtffegkjlgeblbaaGreatDoor.Bod
open Go.RowKit Ints Typ Ins
set_option maxRecDepth 100000
set_option maxHeartbeats 1000000
set_option linter.unusedVariables false

/-- What is open behind an end or an else; and behind what opens. -/
def kOut (op : Int) (K : List Int) : List Int := if op = 5 ∨ op = 11 then K.tail else K
def kIn (op : Int) (K : List Int) : List Int := if opn op = true ∨ op = 5 then op :: kOut op K else kOut op K
/-- Read, by the document. -/
def drd (b : List Int) : Nat → Int → List Ins → List Int → List Ins × Int × Int
  | 0, _, _, _ => ([], 0, 4)
  | f + 1, a, L, K =>
    if (rdo b a).2.2 ≠ 0 then ([], 0, (rdo b a).2.2)
    else if (rdo b a).1.op = 11 ∧ K = [] then (L, (rdo b a).2.1, 0)
    else if (rdo b a).1.op = 5 ∧ K.headD 0 ≠ 4 then ([], 0, 3)
    else if 4096 ≤ L.length ∨ 32 < (kOut (rdo b a).1.op K).length then ([], 0, 4)
    else drd b f (rdo b a).2.1 (L ++ [(rdo b a).1]) (kIn (rdo b a).1.op K)
theorem ownI_apartR {w w' : World} {B B' : Nat} {v r : Value} {l : List Int} {lr : List (Ins × Value)} (h : OwnI w B v l) (hr : OwnR w B' r lr) (hk : ∀ k, k < w.heap.size → some k ≠ r.ownBlock → w'.heap[k]? = w.heap[k]?) : OwnI w' B v l := by
  obtain ⟨h1, h2⟩ := h
  refine ⟨h1, ?_⟩
  rcases h2 with h2 | ⟨g, cap, cur, hv, hB, hc, hle, hm, hsz, ht⟩
  · exact .inl h2
  · refine .inr ⟨g, cap, cur, hv, hB, ?_, hle, hm, hsz, ht⟩
    rw [hk g (Array.getElem?_eq_some_iff.1 hc).1 ?_]
    · exact hc
    · obtain ⟨_, ⟨hv2, _⟩ | ⟨g2, cap2, cur2, hv2, _, hc2, _⟩⟩ := hr
      · subst hv2
        simp [Value.ownBlock]
      · subst hv2
        intro e
        have e : g = g2 := by simpa [Value.ownBlock] using e
        subst e
        rw [hc] at hc2
        simp at hc2
/-- The labels of what was read: each in a row of the call's own, apart from the stack's. -/
def Lab (w : World) (B : Nat) (vK : Value) (L : List (Ins × Value)) : Prop := ∀ p ∈ L, OwnI w B p.2 p.1.L ∧ u64R p.1.K ∧ (p.2.ownBlock = none ∨ p.2.ownBlock ≠ vK.ownBlock)
theorem Lab.keep {w w' : World} {B : Nat} {vK : Value} {L : List (Ins × Value)} (h : Lab w B vK L) (hb : Below w.heap.size w w') : Lab w' B vK L := fun p hp => ⟨(h p hp).1.keep hb, (h p hp).2⟩
theorem Lab.row {w w' : World} {B B' : Nat} {vK r : Value} {L lr : List (Ins × Value)} (h : Lab w B vK L) (hr : OwnR w B' r lr) (hk : ∀ k, k < w.heap.size → some k ≠ r.ownBlock → w'.heap[k]? = w.heap[k]?) : Lab w' B vK L := fun p hp => ⟨ownI_apartR (h p hp).1 hr hk, (h p hp).2⟩
theorem Lab.add {w : World} {B : Nat} {vK : Value} {L : List (Ins × Value)} {p : Ins × Value} (h : Lab w B vK L) (h1 : OwnI w B p.2 p.1.L) (h2 : u64R p.1.K) (h3 : p.2.ownBlock = none ∨ p.2.ownBlock ≠ vK.ownBlock) : Lab w B vK (L ++ [p]) := fun q hq => by
  rcases List.mem_append.1 hq with hq | hq
  · exact h q hq
  · obtain rfl := List.mem_singleton.1 hq
    exact ⟨h1, h2, h3⟩
theorem Lab.same {w : World} {B : Nat} {vK vK' : Value} {L : List (Ins × Value)} (h : Lab w B vK L) (e : vK'.ownBlock = vK.ownBlock) : Lab w B vK' L := fun p hp => by rw [e]; exact h p hp
theorem Lab.ok {w : World} {B : Nat} {vK : Value} {L : List (Ins × Value)} (h : Lab w B vK L) : ∀ p ∈ L, InOk w p := fun p hp => ⟨OwnI.slI (h p hp).1, (h p hp).2.1⟩
/-- What Read tells. -/
def BRead (R : List Ins × Int × Int) (w : World) (e : Ending) (w' : World) : Prop := ∃ v l, e = .returned (.tuple #[v, .int .i64 R.2.1, .int .i64 R.2.2]) ∧ InRow w' v l ∧ insL l = R.1 ∧ Below w.heap.size w w'
/-- Instructions in a row of the call's own, their labels too. -/
def InOwn (w : World) (B : Nat) (v : Value) (l : List (Ins × Value)) : Prop := OwnR w B v l ∧ ∀ p ∈ l, OwnI w B p.2 p.1.L ∧ u64R p.1.K
theorem InOwn.row {w : World} {B : Nat} {v : Value} {l : List (Ins × Value)} (h : InOwn w B v l) : InRow w v l := OwnR.row h.1 fun p hp => ⟨OwnI.slI (h.2 p hp).1, (h.2 p hp).2⟩
theorem InOwn.nil (w : World) (B : Nat) : InOwn w B (.slice none 0 0) [] := ⟨ownR_nil _ _, fun p hp => by simp at hp⟩
theorem InOwn.keep {w w' : World} {B : Nat} {v : Value} {l : List (Ins × Value)} (h : InOwn w B v l) (hb : Below w.heap.size w w') : InOwn w' B v l := ⟨h.1.keep hb, fun p hp => ⟨(h.2 p hp).1.keep hb, (h.2 p hp).2⟩⟩
/-- What Read tells, its memory the call's own. -/
def BReadO (R : List Ins × Int × Int) (w : World) (e : Ending) (w' : World) : Prop := ∃ v l, e = .returned (.tuple #[v, .int .i64 R.2.1, .int .i64 R.2.2]) ∧ InOwn w' w.heap.size v l ∧ insL l = R.1 ∧ Below w.heap.size w w'
theorem BReadO.told {R : List Ins × Int × Int} {w : World} {e : Ending} {w' : World} (h : BReadO R w e w') : BRead R w e w' := by
  obtain ⟨v, l, h1, h2, h3, h4⟩ := h
  exact ⟨v, l, h1, h2.row, h3, h4⟩
/-- A slice's length. -/
def lenOf : Value → Nat
  | .slice _ n _ => n
  | _ => 0
end Go.Proofs.YtffegkjlgeblbaaGreatDoor.Bod
end

section
/- The program's nest, in memory: three rows of the call's own, and the block that holds them. -/
namespace Go.Proofs.YtffegkjlgeblbaaGreatDoor.Bod
open Go.RowKit Ints Typ Ins
set_option maxRecDepth 100000
set_option maxHeartbeats 1000000
set_option linter.unusedVariables false

/-- Pairs of numbers in a row of the call's own: matches, and what is open. -/
def OwnP (e : TypeId) (w : World) (B : Nat) (v : Value) (l : List (Int × Int)) : Prop := w.ownsRow B e 2 v l.length (l.flatMap c2)
theorem ownP_nil (e : TypeId) (w : World) (B : Nat) : OwnP e w B (.slice none 0 0) [] := ⟨rfl, .inl ⟨rfl, rfl⟩⟩
/-- All blocks but one are as they were. -/
def Chg (w w' : World) (r : Option Nat) : Prop := ∀ k, k < w.heap.size → some k ≠ r → w'.heap[k]? = w.heap[k]?
theorem own_stay {w w' : World} {B e s n : Nat} {v : Value} {xs : List Value} (h : w.ownsRow B e s v n xs) (hk : ∀ k, v.ownBlock = some k → w'.heap[k]? = w.heap[k]?) : w'.ownsRow B e s v n xs := by
  obtain ⟨h1, h2⟩ := h
  refine ⟨h1, ?_⟩
  rcases h2 with h2 | ⟨g, cap, cur, hv, hB, hc, hr⟩
  · exact .inl h2
  · exact .inr ⟨g, cap, cur, hv, hB, by rw [hk g (by rw [hv]; rfl)]; exact hc, hr⟩
theorem own_type {w : World} {B e s n : Nat} {v : Value} {xs : List Value} (h : w.ownsRow B e s v n xs) {k : Nat} (hk : v.ownBlock = some k) : ∃ cur, w.heap[k]? = some (.cells cur e (0, 0)) := by
  obtain ⟨_, ⟨h2, _⟩ | ⟨g, cap, cur, hv, hB, hc, _⟩⟩ := h
  · rw [h2] at hk; cases hk
  · rw [hv] at hk
    obtain rfl : g = k := by simpa [Value.ownBlock] using hk
    exact ⟨cur, hc⟩
theorem own_ne {w : World} {B e s n B' e' s' n' : Nat} {v v' : Value} {xs xs' : List Value} (h : w.ownsRow B e s v n xs) (h' : w.ownsRow B' e' s' v' n' xs') (hne : e ≠ e') {k : Nat} (hk : v.ownBlock = some k) : some k ≠ v'.ownBlock := by
  intro e1
  obtain ⟨cur, h1⟩ := own_type h hk
  obtain ⟨cur', h2⟩ := own_type h' e1.symm
  rw [h1] at h2
  simp only [Option.some.injEq, Obj.cells.injEq] at h2
  exact hne h2.2.1
theorem own_beside {w w' : World} {B e s n B' e' s' n' : Nat} {v v' : Value} {xs xs' : List Value} (h : w.ownsRow B e s v n xs) (h' : w.ownsRow B' e' s' v' n' xs') (hne : e ≠ e') (hk : Chg w w' v'.ownBlock) : w'.ownsRow B e s v n xs :=
  own_stay h fun k hkk => hk k (World.ownsRow.lt h k hkk).2 (own_ne h h' hne hkk)
theorem own_low {w : World} {B B' e s n : Nat} {v : Value} {xs : List Value} (h : w.ownsRow B e s v n xs) (hB : B' ≤ B) : w.ownsRow B' e s v n xs := by
  obtain ⟨h1, h2⟩ := h
  refine ⟨h1, ?_⟩
  rcases h2 with h2 | ⟨g, cap, cur, hv, hB, hr⟩
  · exact .inl h2
  · exact .inr ⟨g, cap, cur, hv, by omega, hr⟩
theorem OwnP.form {e : TypeId} {w : World} {B : Nat} {v : Value} {l : List (Int × Int)} (h : OwnP e w B v l) : ∃ P c, v = .slice P l.length c := by
  obtain ⟨_, ⟨hv, hl⟩ | ⟨g, cap, cur, hv, _⟩⟩ := h
  · exact ⟨none, 0, by rw [hv, hl]⟩
  · exact ⟨_, _, hv⟩
theorem OwnP.shape {e : TypeId} {w : World} {B : Nat} {v : Value} {l : List (Int × Int)} (h : OwnP e w B v l) {j : Nat} (hj : j < l.length) : ∃ g c, v = .slice (some ⟨g, 0, none⟩) l.length c ∧ l.length ≤ c := by
  obtain ⟨_, ⟨hv, hl⟩ | ⟨g, cap, cur, hv, _, _, hle, _⟩⟩ := h
  · omega
  · exact ⟨g, cap, hv, hle⟩
theorem OwnP.cells {e : TypeId} {w : World} {B g n c : Nat} {l : List (Int × Int)} (h : OwnP e w B (.slice (some ⟨g, 0, none⟩) n c) l) {j : Nat} (hj : j < l.length) : w.cell? ⟨g, j * 2, none⟩ = some (.int .i64 (l.getD j (0, 0)).1) ∧ w.cell? ⟨g, j * 2 + 1, none⟩ = some (.int .i64 (l.getD j (0, 0)).2) := by
  obtain ⟨p, hp⟩ : ∃ p, l[j]? = some p := ⟨_, List.getElem?_eq_getElem hj⟩
  have key := World.ownsRow.cells h (g := g) rfl
  have a := flat2 l j 0 p hp (by decide)
  have b := flat2 l j 1 p hp (by decide)
  rw [Nat.add_zero] at a
  rw [List.getD_eq_getElem?_getD, hp]
  have k0 := key (j * 2) (.int .i64 p.1) (by rw [a]; rfl)
  have k1 := key (j * 2 + 1) (.int .i64 p.2) (by rw [b]; rfl)
  rw [Typ.add_plain, Nat.zero_add] at k0 k1
  exact ⟨k0, k1⟩
theorem set_here {α : Type} {l : List α} {i : Nat} {x : α} (h : l[i]? = some x) : l.set i x = l := by
  apply List.ext_getElem?
  intro j
  rw [List.getElem?_set]
  by_cases e : i = j
  · subst e
    rw [if_pos rfl, if_pos (List.getElem?_eq_some_iff.1 h).1, h]
  · rw [if_neg e]
theorem pair_set1 {l : List (Int × Int)} {j : Nat} (hj : j < l.length) (a : Int) : (l.flatMap c2).set (j * 2) (.int .i64 a) = (l.set j (a, (l.getD j (0, 0)).2)).flatMap c2 := by
  have h := flat2_set l j a (l.getD j (0, 0)).2
  rw [if_pos hj] at h
  rw [← h]
  have b := flat2 l j 1 _ (List.getElem?_eq_getElem hj) (by decide)
  have e : (l.getD j (0, 0)) = l[j] := by rw [List.getD_eq_getElem?_getD, List.getElem?_eq_getElem hj]; rfl
  refine (set_here ?_).symm
  rw [List.getElem?_set_ne (by omega), b, e]
  rfl
theorem pair_set2 {l : List (Int × Int)} {j : Nat} (hj : j < l.length) (b : Int) : (l.flatMap c2).set (j * 2 + 1) (.int .i64 b) = (l.set j ((l.getD j (0, 0)).1, b)).flatMap c2 := by
  have h := flat2_set l j (l.getD j (0, 0)).1 b
  rw [if_pos hj] at h
  rw [← h]
  have e : (l.getD j (0, 0)) = l[j] := by rw [List.getD_eq_getElem?_getD, List.getElem?_eq_getElem hj]; rfl
  have a := flat2 l j 0 _ (List.getElem?_eq_getElem hj) (by decide)
  rw [Nat.add_zero] at a
  congr 1
  refine (set_here ?_).symm
  rw [a, e]
  rfl
theorem OwnP.set1 {e : TypeId} {w : World} {B g c : Nat} {l : List (Int × Int)} (h : OwnP e w B (.slice (some ⟨g, 0, none⟩) l.length c) l) {j : Nat} (hj : j < l.length) (a : Int) : OwnP e (w.setCell ⟨g, j * 2, none⟩ (.int .i64 a)) B (.slice (some ⟨g, 0, none⟩) l.length c) (l.set j (a, (l.getD j (0, 0)).2)) := by
  have h1 := (World.ownsRow.stored h (j * 2) (.int .i64 a)).1
  unfold OwnP
  rw [List.length_set, ← pair_set1 hj]
  exact h1
theorem OwnP.set2 {e : TypeId} {w : World} {B g c : Nat} {l : List (Int × Int)} (h : OwnP e w B (.slice (some ⟨g, 0, none⟩) l.length c) l) {j : Nat} (hj : j < l.length) (b : Int) : OwnP e (w.setCell ⟨g, j * 2 + 1, none⟩ (.int .i64 b)) B (.slice (some ⟨g, 0, none⟩) l.length c) (l.set j ((l.getD j (0, 0)).1, b)) := by
  have h1 := (World.ownsRow.stored h (j * 2 + 1) (.int .i64 b)).1
  unfold OwnP
  rw [List.length_set, ← pair_set2 hj]
  exact h1
theorem flat2_len : ∀ l : List (Int × Int), (l.flatMap c2).length = l.length * 2
  | [] => rfl
  | a :: l => by rw [List.flatMap_cons, List.length_append, flat2_len l, List.length_cons]; simp [c2]; omega
/-- The stack's pairs. -/
def prs (l : List (Int × Nat)) : List (Int × Int) := l.map fun x => (x.1, (x.2 : Int))
theorem prs_len (l : List (Int × Nat)) : (prs l).length = l.length := by simp [prs]
/-- A nest in a block of its own. -/
structure NAt (w : World) (B g : Nat) (vM vD vS : Value) (n : Nst) : Prop where
  base : B ≤ g
  cell : w.heap[g]? = some (.cells #[vM, vD, vS] 258 (0, 0))
  m : OwnP 282 w B vM n.M
  d : OwnI w B vD n.D
  s : OwnP 284 w B vS (prs n.S)
theorem NAt.lt {w : World} {B g : Nat} {vM vD vS : Value} {n : Nst} (h : NAt w B g vM vD vS n) : g < w.heap.size := (Array.getElem?_eq_some_iff.1 h.cell).1
theorem NAt.keep {w w' : World} {B g : Nat} {vM vD vS : Value} {n : Nst} (h : NAt w B g vM vD vS n) (hb : Below w.heap.size w w') : NAt w' B g vM vD vS n :=
  ⟨h.base, by rw [hb.block g h.lt]; exact h.cell, own_keep h.m hb, own_keep h.d hb, own_keep h.s hb⟩
theorem cells_at {w : World} {g : Nat} {cur : Array Value} {e : TypeId} (h : w.heap[g]? = some (.cells cur e (0, 0))) (i : Nat) : w.cell? ⟨g, i, none⟩ = cur[i]? ∧ w.frozen? ⟨g, i, none⟩ = false := by
  refine ⟨?_, ?_⟩
  · simp only [World.cell?, h]; rfl
  · simp only [World.frozen?, h]; simp
/-- A nest's three cells. -/
theorem NAt.cells {w : World} {B g : Nat} {vM vD vS : Value} {n : Nst} (h : NAt w B g vM vD vS n) : w.cell? ⟨g, 0, none⟩ = some vM ∧ w.cell? ⟨g, 1, none⟩ = some vD ∧ w.cell? ⟨g, 2, none⟩ = some vS ∧ w.frozen? ⟨g, 0, none⟩ = false ∧ w.frozen? ⟨g, 1, none⟩ = false ∧ w.frozen? ⟨g, 2, none⟩ = false :=
  ⟨(cells_at h.cell 0).1, (cells_at h.cell 1).1, (cells_at h.cell 2).1, (cells_at h.cell 0).2, (cells_at h.cell 1).2, (cells_at h.cell 2).2⟩
/-- What else is in memory stays as it was, by what lies there: all but nests, matches and what is open, and the depths' row. -/
structure NFr (w : World) (vD vD' : Value) (w' : World) : Prop where
  size : w.heap.size ≤ w'.heap.size
  oth : ∀ k cur e f, w.heap[k]? = some (.cells cur e f) → e ≠ 258 → e ≠ 282 → e ≠ 284 → some k ≠ vD.ownBlock → w'.heap[k]? = w.heap[k]?
  row : vD'.ownBlock = vD.ownBlock ∨ ∃ h, vD'.ownBlock = some h ∧ w.heap.size ≤ h
theorem NFr.refl (w : World) (vD : Value) : NFr w vD vD w := ⟨Nat.le_refl _, fun _ _ _ _ _ _ _ _ _ => rfl, .inl rfl⟩
theorem lt_of_heap {w : World} {k : Nat} {o : Obj} (h : w.heap[k]? = some o) : k < w.heap.size := (Array.getElem?_eq_some_iff.1 h).1
theorem NFr.trans {w w1 w2 : World} {v v1 v2 : Value} (h : NFr w v v1 w1) (h' : NFr w1 v1 v2 w2) : NFr w v v2 w2 := by
  refine ⟨Nat.le_trans h.size h'.size, fun k cur e f hk h1 h2 h3 h4 => ?_, ?_⟩
  · have a := h.oth k cur e f hk h1 h2 h3 h4
    rw [← a]
    refine h'.oth k cur e f (a.trans hk) h1 h2 h3 ?_
    rcases h.row with e1 | ⟨g, e1, hg⟩
    · rw [e1]; exact h4
    · rw [e1]
      intro e2
      have := lt_of_heap hk
      have := Option.some.inj e2
      omega
  · rcases h'.row with e1 | ⟨g, e1, hg⟩
    · rw [e1]; exact h.row
    · exact .inr ⟨g, e1, Nat.le_trans h.size hg⟩
theorem NFr.below {w w' : World} (v : Value) (h : Below w.heap.size w w') : NFr w v v w' := ⟨h.size, fun k cur e f hk _ _ _ _ => h.block k (lt_of_heap hk), .inl rfl⟩
end Go.Proofs.YtffegkjlgeblbaaGreatDoor.Bod
end

section
/- 'append' of rows to rows of the call's own: instructions, and numbers. -/
namespace Go.Proofs.YtffegkjlgeblbaaGreatDoor.Bod
open Go.RowKit Ints Typ Ins
set_option maxRecDepth 100000
set_option maxHeartbeats 1000000
set_option linter.unusedVariables false
theorem row_one {w : World} {l : List (Ins × Value)} (h : ∀ p ∈ l, InOk w p) : ∀ u ∈ l.flatMap c5, u.oneCell' = true := by
  intro u hu
  obtain ⟨p, hp, hu⟩ := List.mem_flatMap.1 hu
  obtain ⟨P, c, e, _⟩ := (h p hp).1
  simp only [c5, e, List.mem_cons, List.not_mem_nil, or_false] at hu
  rcases hu with rfl | rfl | rfl | rfl | rfl <;> rfl
theorem vi_app (a b : List Int) : vi (a ++ b) = vi a ++ vi b := by simp [vi]
theorem num_cells {w : World} {P : Option Addr} {n c : Nat} {l : List Int} (h : SlI w (.slice P n c) l) {ad : Addr} (hP : P = some ad) : ∀ j u, (vi l)[j]? = some u → w.cell? (ad.add j) = some u := by
  intro j u hu
  have hj : j < l.length := by
    have := (List.getElem?_eq_some_iff.1 hu).1
    simpa [vi] using this
  obtain ⟨g, off, e, hc⟩ := h.at_ hj
  rw [hP] at e
  obtain rfl := Option.some.inj e
  rw [Typ.add_plain, hc]
  rw [← hu]
  unfold vi
  rw [List.getElem?_map, List.getElem?_eq_getElem hj, List.getD_eq_getElem?_getD, List.getElem?_eq_getElem hj]
  rfl
theorem run_nums (w : World) (ty : TypeId) (B : Nat) (v : Value) (done l : List Int) (hown : OwnI w B v done) (A : Option Addr) (c : Nat) (hl : SlI w (.slice A l.length c) l) (hlen : done.length + l.length ≤ 100000) (hB : B ≤ w.heap.size) :
    ∃ v' w', (Builtin.append_ #[26, 26] ty #[v, .slice A l.length c]).run Tryz.prog w = .ok v' w' ∧ OwnI w' B v' (done ++ l) ∧ Below B w w' := by
  obtain ⟨i0, hi, hz0, hz1, hz2⟩ := info_parts int_info
  rcases A with _ | ad
  · have hl0 : l = [] := by
      rcases l with _ | ⟨x, l⟩
      · rfl
      · obtain ⟨g, off, e, _⟩ := hl.at_ (j := 0) (by simp)
        cases e
    subst hl0
    refine ⟨v, w, ?_, by simpa using hown, Below.refl _ _⟩
    have hu := Tryz.underlying26
    obtain ⟨h1, h2⟩ := hown
    rcases h2 with ⟨e, hn⟩ | ⟨g', cp', cur, e, _, _, hn, _⟩
    · subst e
      simp [Builtin.append_, run_underlying hu, sizeOf, typeInfo, hi, Builtin.lenOf, Builtin.firstCells]
    · subst e
      simp [Builtin.append_, run_underlying hu, sizeOf, typeInfo, hi, Builtin.lenOf, Builtin.firstCells, hn, storeCells]
  · obtain ⟨v', w', hr, h1, h2, h3⟩ := run_append_own (P := Tryz.prog) w B 26 ty 3 i0 (.int .i64 0) 1 8 Tryz.underlying26 hi hz0 hz1 hz2 rfl (by decide) v _ _ hown ad l.length c (vi l) (by simp [vi]) (num_cells hl rfl) (by intro u hu; simp only [vi, List.mem_map] at hu; obtain ⟨x, _, rfl⟩ := hu; rfl) (by simp only [maxLen]; omega) (by omega) hB
    refine ⟨v', w', hr, ?_, (Below.refl _ _).grown h2 (by omega) (fun k hk => (World.ownsRow.lt hown k hk).1)⟩
    have h1' : w'.ownsRow B 3 1 v' (done ++ l).length (vi (done ++ l)) := by rw [vi_app, List.length_append]; exact h1
    exact h1'
theorem wp_nums {ops : Array Oper} {rest : List Oper} {o : Oper} {a : Act} {Q : Exit → Act → World → Prop} (w : World) (hgd : o.guard = none) (s x : Operand)
    (ho : o.op = .call { callee := .builtin .append, args := #[s, x], argTypes := #[26, 26] }) (B : Nat) (v : Value) (done l : List Int) (hs : a.eval s = v) (hown : OwnI w B v done)
    (A : Option Addr) (c : Nat) (hx : a.eval x = .slice A l.length c) (hl : SlI w (.slice A l.length c) l) (hlen : done.length + l.length ≤ 100000) (hB : B ≤ w.heap.size)
    (h : ∀ v' w', OwnI w' B v' (done ++ l) → Below B w w' → wpList Tryz.prog ops Q rest (a.put o.dst v') w') : wpList Tryz.prog ops Q (o :: rest) a w := by
  refine wpList_plain hgd fun K hK => ?_
  obtain ⟨v', w', hr, h1, h2⟩ := run_nums w o.type B v done l hown A c hl hlen hB
  unfold Oper.wp
  simp only [execOp, ho, resolve, invoke, builtin, Sem.run_bind, Sem.run_pure, Result.andThen_ok, List.map_toArray, List.map_cons, List.map_nil, hs, hx, hr]
  exact hK _ _ (h v' w' h1 h2)
end Go.Proofs.YtffegkjlgeblbaaGreatDoor.Bod
end

section
/- May instructions be, by the document, walked. -/
namespace Go.Proofs.YtffegkjlgeblbaaGreatDoor.Bod
open Go.RowKit Ints Typ Ins
set_option maxRecDepth 100000
set_option maxHeartbeats 1000000
set_option linter.unusedVariables false

theorem sl_cell {W : World} {P : Option Addr} {m c : Nat} {L : List Int} (h : SlI W (.slice P m c) L) {i : Nat} (hi : i < L.length) : ∃ g off, P = some ⟨g, off, none⟩ ∧ g < W.heap.size ∧ W.cell? ⟨g, off + i, none⟩ = some (.int .i64 (L.getD i 0)) := by
  obtain ⟨A, c', e, _, _, h4⟩ := h
  injection e with e1 e2 e3
  obtain ⟨g, off, a1, a2, a3⟩ := h4 (by intro e; rw [e] at hi; simp at hi)
  exact ⟨g, off, e1.trans a1, a2, a3 i hi⟩
end Go.Proofs.YtffegkjlgeblbaaGreatDoor.Bod
end

section
/- The nest's depthOf, turn and end, walked. -/
namespace Go.Proofs.YtffegkjlgeblbaaGreatDoor.Bod
open Go.RowKit Ints Typ Ins
set_option maxRecDepth 100000
set_option maxHeartbeats 2000000
set_option linter.unusedVariables false

theorem NAt.stk {w : World} {B g : Nat} {vM vD vS : Value} {n : Nst} (h : NAt w B g vM vD vS n) : ∃ P c, vS = .slice P n.S.length c := by
  obtain ⟨P, c, e⟩ := OwnP.form h.s
  rw [prs_len] at e
  exact ⟨P, c, e⟩
end Go.Proofs.YtffegkjlgeblbaaGreatDoor.Bod
end

section
/- The nest's turn and end: what they leave. -/
namespace Go.Proofs.YtffegkjlgeblbaaGreatDoor.Bod
open Go.RowKit Ints Typ Ins
set_option maxRecDepth 100000
set_option maxHeartbeats 2000000
set_option linter.unusedVariables false
/-- What a method of the nest tells and leaves: r, where it may go on. -/
def NTold (B g : Nat) (vD : Value) (r : Option Nst) (w : World) (e : Ending) (w' : World) : Prop := ∃ vM' vD' vS' n1, e = .returned (.bool r.isSome) ∧ (∀ m, r = some m → n1 = m) ∧ NAt w' B g vM' vD' vS' n1 ∧ NFr w vD vD' w' ∧ Below B w w'
theorem prs_top {S0 : List (Int × Nat)} {x : Int × Nat} : (prs (S0 ++ [x])).getD S0.length (0, 0) = (x.1, (x.2 : Int)) := by
  have : prs (S0 ++ [x]) = prs S0 ++ [(x.1, (x.2 : Int))] := by simp [prs]
  rw [this, ← prs_len S0]
  exact getD_app2
theorem NAt.top {w : World} {B g : Nat} {vM vD vS : Value} {n : Nst} (h : NAt w B g vM vD vS n) {S0 : List (Int × Nat)} {x : Int × Nat} (hS : n.S = S0 ++ [x]) : ∃ q c, vS = .slice (some ⟨q, 0, none⟩) (S0.length + 1) c ∧ S0.length + 1 ≤ c ∧ c ≤ 9223372036854775807 ∧ w.cell? ⟨q, S0.length * 2, none⟩ = some (.int .i64 x.1) ∧ w.cell? ⟨q, S0.length * 2 + 1, none⟩ = some (.int .i64 (x.2 : Int)) := by
  have hs := h.s
  rw [hS] at hs
  have hl : (prs (S0 ++ [x])).length = S0.length + 1 := by simp [prs]
  obtain ⟨q, c, rfl, hc⟩ := OwnP.shape hs (j := S0.length) (by omega)
  have hmx : c ≤ 9223372036854775807 := by
    obtain ⟨_, ⟨hv, _⟩ | ⟨g', cap, cur, hv, _, _, _, hm, _⟩⟩ := hs
    · cases hv
    · injection hv with e1 e2 e3
      subst e3
      unfold maxLen at hm
      omega
  have hcl := OwnP.cells hs (j := S0.length) (by omega)
  rw [prs_top] at hcl
  rw [hl] at hc ⊢
  exact ⟨q, c, rfl, hc, hmx, hcl.1, hcl.2⟩
theorem NAt.no {w : World} {B g : Nat} {vM vD vS : Value} {n : Nst} (h : NAt w B g vM vD vS n) : NTold B g vD none w (.returned (.bool false)) w := ⟨vM, vD, vS, n, rfl, (fun m hm => by cases hm), h, NFr.refl _ _, Below.refl _ _⟩
end Go.Proofs.YtffegkjlgeblbaaGreatDoor.Bod
end

section
/- What is gone over, and nested: the program's, walked. -/
namespace Go.Proofs.YtffegkjlgeblbaaGreatDoor.Bod
open Go.RowKit Ints Typ Ins
set_option maxRecDepth 100000
set_option maxHeartbeats 2000000
set_option linter.unusedVariables false
theorem heap_new (w : World) (o : Obj) : (w.alloc o).heap[w.heap.size]? = some o := by
  show (w.heap.push o)[w.heap.size]? = some o
  simp
theorem NAt.new (w : World) : NAt (w.alloc (.cells #[.slice none 0 0, .slice none 0 0, .slice none 0 0] 258)) w.heap.size w.heap.size (.slice none 0 0) (.slice none 0 0) (.slice none 0 0) ⟨[], [], []⟩ :=
  ⟨Nat.le_refl _, heap_new _ _, ownP_nil _ _ _, ownI_nil _ _, ownP_nil _ _ _⟩
end Go.Proofs.YtffegkjlgeblbaaGreatDoor.Bod
end

section
/- What an instruction stands in, by the program: walked. -/
namespace Go.Proofs.YtffegkjlgeblbaaGreatDoor.Bod
open Go.RowKit Ints Typ Ins
set_option maxRecDepth 100000
set_option maxHeartbeats 2000000
set_option linter.unusedVariables false
theorem OwnP.take {e : TypeId} {w : World} {B n c d : Nat} {P : Option Addr} {l : List (Int × Int)} (h : OwnP e w B (.slice P n c) l) (hd : d ≤ n) : OwnP e w B (.slice P d c) (l.take d) ∧ d ≤ c ∧ c ≤ 9223372036854775807 ∧ ((P = none ∧ n = 0 ∧ c = 0) ∨ ∃ g, P = some ⟨g, 0, none⟩) := by
  obtain ⟨h1, ⟨hv, hl⟩ | ⟨g', cap, cur, hv, hB, hc, hle, hm, hsz, ht⟩⟩ := h
  · injection hv with e1 e2 e3
    subst e1 e2 e3
    obtain rfl : d = 0 := by omega
    exact ⟨⟨rfl, .inl ⟨rfl, by simp⟩⟩, Nat.le_refl _, by omega, .inl ⟨rfl, rfl, rfl⟩⟩
  · injection hv with e1 e2 e3
    subst e1 e2 e3
    have hlen := flat2_len l
    have hdl : (l.take d).length = d := by rw [List.length_take]; omega
    refine ⟨⟨flat2_len _, .inr ⟨g', c, cur, by rw [hdl], hB, hc, by omega, hm, hsz, ?_⟩⟩, by omega, by unfold maxLen at hm; omega, .inr ⟨g', rfl⟩⟩
    rw [hdl]
    have h2 : l.flatMap c2 = (l.take d).flatMap c2 ++ (l.drop d).flatMap c2 := by rw [← List.flatMap_append, List.take_append_drop]
    have := congrArg (List.take (d * 2)) ht
    rw [List.take_take, h2, List.take_append_of_le_length (by rw [flat2_len, hdl]; exact Nat.le_refl _), show ((l.take d).flatMap c2).take (d * 2) = (l.take d).flatMap c2 from List.take_of_length_le (by rw [flat2_len, hdl]; exact Nat.le_refl _), show min (d * 2) (l.length * 2) = d * 2 from by omega] at this
    exact this
theorem InRow.take {w : World} {A : Option Addr} {n c k : Nat} {l : List (Ins × Value)} (h : InRow w (.slice A n c) l) (hk : k ≤ l.length) : InRow w (.slice A k c) (l.take k) := by
  obtain ⟨⟨A', c', h1, h2, h3, h4⟩, h5⟩ := h
  injection h1 with e1 e2 e3
  subst e1 e2 e3
  have hl : (l.take k).length = k := by rw [List.length_take]; omega
  refine ⟨⟨A, c, by rw [hl], by omega, h3, fun h0 => ?_⟩, fun p hp => h5 p (List.mem_of_mem_take hp)⟩
  have hne : l ≠ [] := fun e => h0 (by rw [e]; simp)
  obtain ⟨g, off, e, hg, hB⟩ := h4 hne
  refine ⟨g, off, e, hg, fun j p hp => hB j p ?_⟩
  rw [List.getElem?_take] at hp
  split at hp
  · exact hp
  · cases hp
end Go.Proofs.YtffegkjlgeblbaaGreatDoor.Bod
end

section
/- Reading a body, by the program: walked. -/
namespace Go.Proofs.YtffegkjlgeblbaaGreatDoor.Bod
open Go.RowKit Ints Typ Ins
set_option maxRecDepth 100000
set_option maxHeartbeats 4000000
set_option linter.unusedVariables false
theorem Lab.fr {w w' : World} {B : Nat} {vD vD' : Value} {L : List (Ins × Value)} (h : Lab w B vD L) (hf : NFr w vD vD' w') : Lab w' B vD' L := fun p hp => by
  obtain ⟨h1, h2, h3⟩ := h p hp
  have hne : ∀ k, p.2.ownBlock = some k → some k ≠ vD.ownBlock := fun k hk => by
    rcases h3 with h3 | h3
    · rw [hk] at h3; cases h3
    · rw [← hk]; exact h3
  refine ⟨own_stay h1 fun k hk => ?_, h2, ?_⟩
  · obtain ⟨cur, hc⟩ := own_type h1 hk
    exact hf.oth k cur _ _ hc (by decide) (by decide) (by decide) (hne k hk)
  · rcases hf.row with e | ⟨g, e, hg⟩
    · rw [e]; exact h3
    · cases ho : p.2.ownBlock with
      | none => exact .inl rfl
      | some k =>
        refine .inr ?_
        rw [e]
        intro e2
        have e2 := Option.some.inj e2
        have := (World.ownsRow.lt h1 k ho).2
        omega
end Go.Proofs.YtffegkjlgeblbaaGreatDoor.Bod
end

section
/- Laying a body, by the program: walked. -/
namespace Go.Proofs.YtffegkjlgeblbaaGreatDoor.Bod
open Go.RowKit Ints Typ Ins
set_option maxRecDepth 100000
set_option maxHeartbeats 2000000
set_option linter.unusedVariables false
theorem byt_cells {w : World} {ad : Addr} {n c : Nat} {l : List Int} (h : Sl w (.slice (some ad) n c) l) : ∀ j u, (vb l)[j]? = some u → w.cell? (ad.add j) = some u := by
  intro j u hu
  have hl : l ≠ [] := fun e => by rw [e] at hu; simp [vb] at hu
  obtain ⟨A, c', h1, _, _, h4⟩ := h
  obtain ⟨g, off, e, hB⟩ := h4 hl
  injection h1 with e1
  rw [e] at e1
  obtain rfl := Option.some.inj e1
  exact Byt.cells hB j u hu
end Go.Proofs.YtffegkjlgeblbaaGreatDoor.Bod
end
