/- ModCount, ModFuncs, ModRuns, ModRunsM, ModLd. -/
import Derived.Test.YtffegkjlgeblbaaGreatDoorPkModOf
import Derived.Test.YtffegkjlgeblbaaGreatDoorPkBodPutP
import Derived.Test.YtffegkjlgeblbaaGreatDoorPkSecCustom
import Derived.Deep.QuietTactic
import Derived.BigQuiet
import Derived.Test.YtffegkjlgeblbaaGreatDoorStabAll
section
/- How many of a kind, by the document: walked. -/
namespace Go.Proofs.YtffegkjlgeblbaaGreatDoor.Mdl
open Go.RowKit Ints Typ Ins
set_option maxRecDepth 100000
set_option maxHeartbeats 4000000
set_option linter.unusedVariables false
theorem row_len {α : Type} {T : RowG.El α} {w : World} {v : Value} {l : List α} (h : RowG.Row T w v l) : ∃ A c, v = .slice A l.length c := by
  obtain ⟨A, c, e, _⟩ := h.form
  exact ⟨A, c, e⟩
/-- Imports of a kind. -/
def impN (l : List ImpT) (d : Int) : Nat := (l.filter fun p => p.kind == d).length
theorem impN_take {l : List ImpT} {i : Nat} {p : ImpT} (d : Int) (h : l[i]? = some p) : impN (l.take (i + 1)) d = impN (l.take i) d + (if p.kind == d then 1 else 0) := by
  obtain ⟨h1, h2⟩ := List.getElem?_eq_some_iff.1 h
  unfold impN
  rw [List.take_succ_eq_append_getElem h1, h2, List.filter_append, List.length_append]
  cases hd : p.kind == d <;> simp [hd]
theorem impN_le (l : List ImpT) (d : Int) : impN l d ≤ l.length := List.length_filter_le _ _
def ownN (m : ModT) (d : Int) : Nat := if d = 0 then m.funcs.length else if d = 1 then m.tabs.length else if d = 2 then m.mems.length else if d = 3 then m.globs.length else 0
/-- How many of a kind. -/
def cntM (m : ModT) (d : Int) : Nat := if d = 0 ∨ d = 1 ∨ d = 2 ∨ d = 3 then impN m.imps d + ownN m d else 0
/-- Lists that are no longer than so much. -/
def ShortM (m : ModT) : Prop := m.types.length ≤ 30000 ∧ m.imps.length ≤ 30000 ∧ m.funcs.length ≤ 30000 ∧ m.tabs.length ≤ 30000 ∧ m.mems.length ≤ 30000 ∧ m.globs.length ≤ 30000 ∧ m.exps.length ≤ 30000 ∧ m.elems.length ≤ 30000 ∧ m.codes.length ≤ 30000 ∧ m.datas.length ≤ 30000
end Go.Proofs.YtffegkjlgeblbaaGreatDoor.Mdl
end

section
/- All functions' types, by the document: walked. -/
namespace Go.Proofs.YtffegkjlgeblbaaGreatDoor.Mdl
open Go.RowKit Ints Typ Ins
set_option maxRecDepth 100000
set_option maxHeartbeats 4000000
set_option linter.unusedVariables false
/-- The types of imported functions. -/
def impF (l : List ImpT) : List Int := (l.filter fun p => p.kind == 0).map (·.ty)
theorem impF_take {l : List ImpT} {i : Nat} {p : ImpT} (h : l[i]? = some p) : impF (l.take (i + 1)) = impF (l.take i) ++ (if p.kind == 0 then [p.ty] else []) := by
  obtain ⟨h1, h2⟩ := List.getElem?_eq_some_iff.1 h
  unfold impF
  rw [List.take_succ_eq_append_getElem h1, h2, List.filter_append, List.map_append]
  cases hd : p.kind == 0 <;> simp [hd]
theorem impF_len (l : List ImpT) : (impF l).length ≤ l.length := by
  unfold impF
  rw [List.length_map]
  exact List.length_filter_le _ _
def funcsM (m : ModT) : List Int := impF m.imps ++ m.funcs
end Go.Proofs.YtffegkjlgeblbaaGreatDoor.Mdl
end

section
/- Runs of bytes, by the document: walked. -/
namespace Go.Proofs.YtffegkjlgeblbaaGreatDoor.Mdl
open Go.RowKit Ints Typ Ins
set_option maxRecDepth 100000
set_option maxHeartbeats 4000000
set_option linter.unusedVariables false
/-- Pairs in a row. -/
def elP : RowG.El (Int × Int) where
  e := 45
  s := 2
  z := .agg #[.int .i64 0, .int .i64 0]
  bytes := 16
  enc := fun p => [.int .i64 p.1, .int .i64 p.2]
  ok := fun w p => True
  pos := by decide
  len := fun _ => rfl
  info := by kernel_rfl
  zs := rfl
  stay := fun h _ => h
  one := fun h u hu => by
    simp only [List.mem_cons, List.not_mem_nil, or_false] at hu
    rcases hu with rfl | rfl <;> rfl
theorem own_set {w : World} {B g e s n n0 c i : Nat} {xs : List Value} {v : Value} (h : w.ownsRow B e s (.slice (some ⟨g, 0, none⟩) n0 c) n xs) (hi : i < n * s) : (w.setCell ⟨g, i, none⟩ v).ownsRow B e s (.slice (some ⟨g, 0, none⟩) n0 c) n (xs.set i v) := by
  obtain ⟨h1, ⟨h2, h3⟩ | ⟨g', cap, cur, hv, hB, hc, hle, hm, hsz, ht⟩⟩ := h
  · cases h2
  · have hg : g = g' := by
      injection hv with e1 _ _
      simpa using e1
    subst hg
    refine ⟨by rw [List.length_set]; exact h1, .inr ⟨g, cap, cur.setIfInBounds i v, hv, hB, heap_setCell_same w g i cur e v hc, hle, hm, by rw [Array.size_setIfInBounds]; exact hsz, ?_⟩⟩
    rw [Array.toList_setIfInBounds, List.take_set, ht]
theorem own_setP {w : World} {B g n0 c k : Nat} {q : List (Int × Int)} {a b x : Int} (h : RowG.Own elP w B (.slice (some ⟨g, 0, none⟩) n0 c) (q ++ [(a, b)])) (hk : q.length = k)
    (hs : ((q ++ [(a, b)]).flatMap elP.enc).set (q.length * 2) (.int .i64 x) = (q ++ [(x, b)]).flatMap elP.enc) : RowG.Own elP (w.setCell ⟨g, k * 2, none⟩ (.int .i64 x)) B (.slice (some ⟨g, 0, none⟩) n0 c) (q ++ [(x, b)]) := by
  subst hk
  have := own_set (v := .int .i64 x) (i := q.length * 2) h (by rw [List.length_append, List.length_singleton]; show _ < (q.length + 1) * 2; omega)
  rw [hs] at this
  have e : (q ++ [(x, b)]).length = (q ++ [(a, b)]).length := by rw [List.length_append, List.length_append]; rfl
  unfold RowG.Own
  rw [e]
  exact this
/-- One byte more. -/
def rstep (out : List (Int × Int)) (x : Int) : List (Int × Int) :=
  match out.getLast? with
  | some (c, y) => if y = x then out.dropLast ++ [(c + 1, y)] else out ++ [(1, x)]
  | none => [(1, x)]
def runs (l : List Int) : List (Int × Int) := l.foldl rstep []
theorem runs_take {l : List Int} {i : Nat} (h : i < l.length) : runs (l.take (i + 1)) = rstep (runs (l.take i)) (l.getD i 0) := by
  unfold runs
  rw [List.take_succ_eq_append_getElem h, List.foldl_append, List.getD_eq_getElem?_getD, List.getElem?_eq_getElem h]
  rfl
theorem rstep_new (x : Int) : rstep [] x = [(1, x)] := rfl
theorem rstep_more (p : List (Int × Int)) (c x : Int) : rstep (p ++ [(c, x)]) x = p ++ [(c + 1, x)] := by
  unfold rstep
  rw [List.getLast?_concat]
  simp
theorem rstep_other (p : List (Int × Int)) (c y x : Int) (h : y ≠ x) : rstep (p ++ [(c, y)]) x = p ++ [(c, y)] ++ [(1, x)] := by
  unfold rstep
  rw [List.getLast?_concat]
  simp [h]
theorem runs_small : ∀ (l : List Int), (runs l).length ≤ l.length ∧ ∀ p ∈ runs l, 0 ≤ p.1 ∧ p.1 ≤ (l.length : Int) := by
  have key : ∀ (l : List Int) (out : List (Int × Int)) (k : Nat), out.length ≤ k → (∀ p ∈ out, 0 ≤ p.1 ∧ p.1 ≤ (k : Int)) → (l.foldl rstep out).length ≤ k + l.length ∧ ∀ p ∈ l.foldl rstep out, 0 ≤ p.1 ∧ p.1 ≤ ((k + l.length : Nat) : Int) := by
    intro l
    induction l with
    | nil => intro out k h1 h2; exact ⟨h1, h2⟩
    | cons x l ih =>
      intro out k h1 h2
      rw [List.foldl_cons]
      have hs : (rstep out x).length ≤ k + 1 ∧ ∀ p ∈ rstep out x, 0 ≤ p.1 ∧ p.1 ≤ ((k + 1 : Nat) : Int) := by
        rcases List.eq_nil_or_concat out with rfl | ⟨q, ⟨c, y⟩, rfl⟩
        · rw [rstep_new]
          refine ⟨by simp, fun p hp => ?_⟩
          rw [List.mem_singleton.1 hp]
          simp only
          omega
        · rw [List.concat_eq_append] at h1 h2 ⊢
          rw [List.length_append, List.length_singleton] at h1
          by_cases hy : y = x
          · subst hy
            rw [rstep_more]
            refine ⟨by rw [List.length_append, List.length_singleton]; omega, fun p hp => ?_⟩
            rcases List.mem_append.1 hp with hp | hp
            · have := h2 p (List.mem_append_left _ hp); omega
            · have := h2 (c, y) (List.mem_append_right _ (by simp))
              rw [List.mem_singleton.1 hp]
              simp only at this ⊢
              omega
          · rw [rstep_other _ _ _ _ hy]
            refine ⟨by rw [List.length_append, List.length_append, List.length_singleton, List.length_singleton]; omega, fun p hp => ?_⟩
            rcases List.mem_append.1 hp with hp | hp
            · have := h2 p hp; omega
            · rw [List.mem_singleton.1 hp]
              simp only
              omega
      have := ih (rstep out x) (k + 1) hs.1 hs.2
      rw [List.length_cons, show k + (l.length + 1) = k + 1 + l.length from by omega]
      exact this
  intro l
  have := key l [] 0 (Nat.le_refl _) (by simp)
  simpa [runs] using this
theorem flat_set (q : List (Int × Int)) (a b c : Int) : ((q ++ [(a, b)]).flatMap elP.enc).set (q.length * 2) (.int .i64 c) = (q ++ [(c, b)]).flatMap elP.enc := by
  have hl : (q.flatMap elP.enc).length = q.length * 2 := RowG.flat_len elP q
  rw [List.flatMap_append, List.flatMap_append, List.set_append_right _ _ (by omega), hl, Nat.sub_self]
  rfl
theorem own_pair {w : World} {B g m c : Nat} {q : List (Int × Int)} {a b : Int} (h : RowG.Own elP w B (.slice (some ⟨g, 0, none⟩) m c) (q ++ [(a, b)])) : w.cell? ⟨g, q.length * 2, none⟩ = some (.int .i64 a) ∧ w.cell? ⟨g, q.length * 2 + 1, none⟩ = some (.int .i64 b) ∧ w.frozen? ⟨g, q.length * 2, none⟩ = false ∧ B ≤ g := by
  have hl : (q.flatMap elP.enc).length = q.length * 2 := RowG.flat_len elP q
  have h0 := World.ownsRow.cells h (g := g) rfl (q.length * 2) (.int .i64 a) (by rw [List.flatMap_append, List.getElem?_append_right (by omega), hl, Nat.sub_self]; rfl)
  have h1 := World.ownsRow.cells h (g := g) rfl (q.length * 2 + 1) (.int .i64 b) (by rw [List.flatMap_append, List.getElem?_append_right (by omega), hl, show q.length * 2 + 1 - q.length * 2 = 1 from by omega]; rfl)
  rw [RowG.g_plain, Nat.zero_add] at h0 h1
  refine ⟨h0, h1, ?_, (World.ownsRow.lt h g rfl).1⟩
  obtain ⟨_, ⟨e, _⟩ | ⟨g', cap, cur, hv, hB, hc, _⟩⟩ := id h
  · cases e
  · have hg : g = g' := by
      injection hv with e1 _ _
      simpa using e1
    subst hg
    exact frozen_of_row w g _ cur _ hc
theorem new_pair (w : World) (a b : Int) : RowG.At elP (w.alloc (.cells #[.int .i64 a, .int .i64 b] 45)) w.heap.size 0 (a, b) := by
  intro i u hu
  rcases i with _ | _ | i
  · simp [elP] at hu; subst hu; simp
  · simp [elP] at hu; subst hu; simp
  · simp [elP] at hu
end Go.Proofs.YtffegkjlgeblbaaGreatDoor.Mdl
end

section
/- Runs, plainly: what they are of; and what a module counts. -/
namespace Go.Proofs.YtffegkjlgeblbaaGreatDoor.Mdl
open Go.RowKit Ints Typ Ins
set_option maxRecDepth 100000
set_option maxHeartbeats 1000000
set_option linter.unusedVariables false
/-- Runs, written out. -/
def exR (q : List (Int × Int)) : List Int := q.flatMap fun p => List.replicate p.1.toNat p.2
/-- No two behind each other are of one byte. -/
def adjR (s : List Int) : Prop := ∀ i a b, s[i]? = some a → s[i + 1]? = some b → b ≠ a
structure RInv (l : List Int) (q : List (Int × Int)) : Prop where
  pos : ∀ p ∈ q, 1 ≤ p.1
  ex : exR q = l
  adj : adjR (q.map (·.2))
theorem exR_app (a b : List (Int × Int)) : exR (a ++ b) = exR a ++ exR b := by unfold exR; rw [List.flatMap_append]
theorem exR_one (c y : Int) : exR [(c, y)] = List.replicate c.toNat y := by simp [exR]
theorem adj_app {s : List Int} {y x : Int} (h : adjR (s ++ [y])) (hn : y ≠ x) : adjR (s ++ [y] ++ [x]) := by
  intro i a b ha hb
  have hlen : (s ++ [y]).length = s.length + 1 := by simp
  by_cases hi : i + 1 < s.length + 1
  · rw [List.getElem?_append_left (by rw [hlen]; omega)] at ha hb
    exact h i a b ha hb
  · have hlt := (List.getElem?_eq_some_iff.1 hb).1
    rw [List.length_append, hlen] at hlt
    simp at hlt
    obtain rfl : i = s.length := by omega
    rw [List.getElem?_append_right (by rw [hlen]; omega), hlen] at hb
    rw [List.getElem?_append_left (by rw [hlen]; omega), List.getElem?_append_right (Nat.le_refl _)] at ha
    simp at ha hb
    subst ha hb
    exact fun e => hn e.symm
theorem rinv_step {l : List Int} {q : List (Int × Int)} {x : Int} (h : RInv l q) : RInv (l ++ [x]) (rstep q x) := by
  rcases List.eq_nil_or_concat q with rfl | ⟨p, ⟨c, y⟩, rfl⟩
  · have h1 := h.ex
    simp [exR] at h1
    subst h1
    rw [rstep_new]
    exact ⟨by simp, by simp [exR], fun i a b ha hb => by simp at hb⟩
  · rw [List.concat_eq_append] at h ⊢
    by_cases hy : y = x
    · subst hy
      rw [rstep_more]
      have hc : 1 ≤ c := h.pos (c, y) (by simp)
      refine ⟨fun r hr => ?_, ?_, ?_⟩
      · rcases List.mem_append.1 hr with hr | hr
        · exact h.pos r (by simp [hr])
        · rw [List.mem_singleton.1 hr]
          simp only
          omega
      · have h1 := h.ex
        rw [exR_app, exR_one] at h1 ⊢
        rw [← h1, show (c + 1).toNat = c.toNat + 1 from by omega, List.replicate_succ', List.append_assoc]
      · have h1 := h.adj
        simpa using h1
    · rw [rstep_other _ _ _ _ hy]
      refine ⟨fun r hr => ?_, ?_, ?_⟩
      · rcases List.mem_append.1 hr with hr | hr
        · exact h.pos r hr
        · rw [List.mem_singleton.1 hr]
          simp only
          omega
      · rw [exR_app, h.ex, exR_one]
        rfl
      · have h1 := h.adj
        rw [List.map_append, List.map_singleton] at h1 ⊢
        rw [List.map_append, List.map_singleton]
        exact adj_app h1 hy
theorem rinv_fold : ∀ (r l : List Int) (q : List (Int × Int)), RInv l q → RInv (l ++ r) (r.foldl rstep q)
  | [], l, q, h => by rw [List.append_nil]; exact h
  | x :: r, l, q, h => by
    have := rinv_fold r (l ++ [x]) (rstep q x) (rinv_step h)
    rw [List.append_assoc] at this
    exact this
theorem rinv (l : List Int) : RInv l (runs l) := rinv_fold l [] [] ⟨by simp, rfl, fun i a b ha _ => by simp at ha⟩
/-- Where a run begins. -/
def atR (q : List (Int × Int)) (i : Nat) : Nat := (exR (q.take i)).length
theorem atR_zero (q : List (Int × Int)) : atR q 0 = 0 := by simp [atR, exR]
theorem atR_next {q : List (Int × Int)} {i : Nat} {c y : Int} (h : q[i]? = some (c, y)) : atR q (i + 1) = atR q i + c.toNat := by
  unfold atR
  rw [List.take_add_one, h]
  show (exR (q.take i ++ [(c, y)])).length = _
  rw [exR_app, List.length_append, exR_one, List.length_replicate]
theorem atR_all (l : List Int) : atR (runs l) (runs l).length = l.length := by
  unfold atR
  rw [List.take_length, (rinv l).ex]
theorem atR_in {l : List Int} {i k : Nat} {c y : Int} (h : (runs l)[i]? = some (c, y)) (hk : k < c.toNat) : atR (runs l) i + k < l.length ∧ l[atR (runs l) i + k]? = some y := by
  have h1 : exR ((runs l).take i) ++ (List.replicate c.toNat y ++ exR ((runs l).drop (i + 1))) = l := by
    have h2 := (rinv l).ex
    have h3 : runs l = (runs l).take i ++ ((c, y) :: (runs l).drop (i + 1)) := by
      obtain ⟨hi, he⟩ := List.getElem?_eq_some_iff.1 h
      conv => lhs; rw [← List.take_append_drop i (runs l)]
      rw [List.drop_eq_getElem_cons hi, he]
    rw [h3, exR_app, show ((c, y) :: (runs l).drop (i + 1)) = [(c, y)] ++ (runs l).drop (i + 1) from rfl, exR_app, exR_one] at h2
    exact h2
  have h4 : l[atR (runs l) i + k]? = some y := by
    obtain ⟨q, hq⟩ : ∃ q, runs l = q := ⟨_, rfl⟩
    rw [hq] at h1 ⊢
    unfold atR
    conv => lhs; rw [← h1]
    rw [List.getElem?_append_right (by omega), Nat.add_sub_cancel_left, List.getElem?_append_left (by rw [List.length_replicate]; exact hk), List.getElem?_replicate, if_pos hk]
  exact ⟨(List.getElem?_eq_some_iff.1 h4).1, h4⟩
theorem run_pos {l : List Int} {i : Nat} {c y : Int} (h : (runs l)[i]? = some (c, y)) : 1 ≤ c := (rinv l).pos _ (List.mem_of_getElem? h)
theorem run_adj {l : List Int} {i : Nat} {c y d z : Int} (h : (runs l)[i]? = some (c, y)) (k : (runs l)[i + 1]? = some (d, z)) : z ≠ y :=
  (rinv l).adj i y z (by rw [List.getElem?_map, h]; rfl) (by rw [List.getElem?_map, k]; rfl)
/-- Imports that are none of the four. -/
def oddN (l : List ImpT) : Nat := (l.filter fun p => decide (p.kind < 0) || decide (3 < p.kind)).length
theorem oddN_take {l : List ImpT} {i : Nat} {p : ImpT} (h : l[i]? = some p) : oddN (l.take (i + 1)) = oddN (l.take i) + (if p.kind < 0 ∨ 3 < p.kind then 1 else 0) := by
  unfold oddN
  rw [List.take_add_one, h, List.filter_append, List.length_append]
  by_cases h0 : p.kind < 0 ∨ 3 < p.kind
  · rw [if_pos h0]
    simp [List.filter, h0]
  · rw [if_neg h0]
    have t : (decide (p.kind < 0) || decide (3 < p.kind)) = false := by simp; omega
    rw [show (some p).toList.filter (fun p => decide (p.kind < 0) || decide (3 < p.kind)) = [] from List.filter_cons_of_neg (by rw [t]; decide)]
    rfl
theorem odd_all : ∀ l : List ImpT, impN l 0 + impN l 1 + impN l 2 + impN l 3 + oddN l = l.length
  | [] => rfl
  | p :: l => by
    have ih := odd_all l
    unfold impN oddN at ih ⊢
    simp only [List.filter_cons, List.length_cons]
    rcases Int.lt_trichotomy p.kind 0 with h | h | h
    · have t : (decide (p.kind < 0) || decide (3 < p.kind)) = true := by simp [h]
      rw [if_neg (by simp; omega), if_neg (by simp; omega), if_neg (by simp; omega), if_neg (by simp; omega), if_pos t, List.length_cons]
      omega
    · have t : ¬ (decide (p.kind < 0) || decide (3 < p.kind)) = true := by simp; omega
      rw [if_pos (by simp [h]), if_neg (by simp; omega), if_neg (by simp; omega), if_neg (by simp; omega), if_neg t, List.length_cons]
      omega
    · by_cases h3 : 3 < p.kind
      · have t : (decide (p.kind < 0) || decide (3 < p.kind)) = true := by simp [h3]
        rw [if_neg (by simp; omega), if_neg (by simp; omega), if_neg (by simp; omega), if_neg (by simp; omega), if_pos t, List.length_cons]
        omega
      · have t : ¬ (decide (p.kind < 0) || decide (3 < p.kind)) = true := by simp; omega
        have h4 : p.kind = 1 ∨ p.kind = 2 ∨ p.kind = 3 := by omega
        rcases h4 with h4 | h4 | h4
        · rw [if_neg (by simp; omega), if_pos (by simp [h4]), if_neg (by simp; omega), if_neg (by simp; omega), if_neg t, List.length_cons]
          omega
        · rw [if_neg (by simp; omega), if_neg (by simp; omega), if_pos (by simp [h4]), if_neg (by simp; omega), if_neg t, List.length_cons]
          omega
        · rw [if_neg (by simp; omega), if_neg (by simp; omega), if_neg (by simp; omega), if_pos (by simp [h4]), if_neg t, List.length_cons]
          omega
theorem cnt_all (m : ModT) : cntM m 0 + cntM m 1 + cntM m 2 + cntM m 3 + oddN m.imps = m.imps.length + m.funcs.length + m.tabs.length + m.mems.length + m.globs.length := by
  have h := odd_all m.imps
  unfold cntM ownN
  simp
  omega
theorem funcs_cnt (m : ModT) : (funcsM m).length = cntM m 0 := by
  unfold funcsM cntM ownN impF impN
  simp
theorem oddN_le (l : List ImpT) : oddN l ≤ l.length := List.length_filter_le _ _
end Go.Proofs.YtffegkjlgeblbaaGreatDoor.Mdl
end

section
/- A module in a box: loads of it, and of its lists. -/
namespace Go.Proofs.YtffegkjlgeblbaaGreatDoor.Mdl
open Go.RowKit Ints Typ Ins
set_option maxRecDepth 100000
set_option maxHeartbeats 1000000
set_option linter.unusedVariables false
theorem bx_keep {W0 W : World} {b : Nat} {o : Obj} (h : W0.heap[b]? = some o) (hb : Below W0.heap.size W0 W) : W.heap[b]? = some o := by
  rw [hb.block _ (Array.getElem?_eq_some_iff.1 h).1]
  exact h
theorem run_ldM {W : World} {b : Nat} {c0 c1 c2 c3 c4 c5 c6 c7 c8 c9 c10 : Value} (h : W.heap[b]? = some (.cells #[c0, c1, c2, c3, c4, c5, c6, c7, c8, c9, c10] 34 (0, 0))) :
    (Instr.loadAt 34 (.pointer (some ⟨b, 0, none⟩))).run Tryz.prog W = .ok (.agg #[c0, c1, c2, c3, c4, c5, c6, c7, c8, c9, c10]) W := by
  have q0 := (Sec.cells_at h 0).1
  have q1 := (Sec.cells_at h 1).1
  have q2 := (Sec.cells_at h 2).1
  have q3 := (Sec.cells_at h 3).1
  have q4 := (Sec.cells_at h 4).1
  have q5 := (Sec.cells_at h 5).1
  have q6 := (Sec.cells_at h 6).1
  have q7 := (Sec.cells_at h 7).1
  have q8 := (Sec.cells_at h 8).1
  have q9 := (Sec.cells_at h 9).1
  have q10 := (Sec.cells_at h 10).1
  clear h
  go_simp
theorem run_fM2 (b : Nat) (W : World) : (Instr.fieldAt 34 (.pointer (some ⟨b, 0, none⟩)) 2).run Tryz.prog W = .ok (.pointer (some ⟨b, 2, none⟩)) W := by go_simp
theorem run_fM3 (b : Nat) (W : World) : (Instr.fieldAt 34 (.pointer (some ⟨b, 0, none⟩)) 3).run Tryz.prog W = .ok (.pointer (some ⟨b, 3, none⟩)) W := by go_simp
theorem run_fM4 (b : Nat) (W : World) : (Instr.fieldAt 34 (.pointer (some ⟨b, 0, none⟩)) 4).run Tryz.prog W = .ok (.pointer (some ⟨b, 4, none⟩)) W := by go_simp
theorem run_fM5 (b : Nat) (W : World) : (Instr.fieldAt 34 (.pointer (some ⟨b, 0, none⟩)) 5).run Tryz.prog W = .ok (.pointer (some ⟨b, 5, none⟩)) W := by go_simp
theorem run_ldS2 (A : Option Addr) (n c g o : Nat) (W : World) (h : W.cell? ⟨g, o, none⟩ = some (.slice A n c)) : (Instr.loadAt 26 (.pointer (some ⟨g, o, none⟩))).run Tryz.prog W = .ok (.slice A n c) W := by go_simp
theorem run_ldS3 (A : Option Addr) (n c g o : Nat) (W : World) (h : W.cell? ⟨g, o, none⟩ = some (.slice A n c)) : (Instr.loadAt 27 (.pointer (some ⟨g, o, none⟩))).run Tryz.prog W = .ok (.slice A n c) W := by go_simp
theorem run_ldS5 (A : Option Addr) (n c g o : Nat) (W : World) (h : W.cell? ⟨g, o, none⟩ = some (.slice A n c)) : (Instr.loadAt 28 (.pointer (some ⟨g, o, none⟩))).run Tryz.prog W = .ok (.slice A n c) W := by go_simp
theorem run_lenM2 (A : Option Addr) (n c : Nat) (ty : TypeId) (W : World) : (Builtin.len_ #[26] ty #[.slice A n c]).run Tryz.prog W = .ok (.int .i64 (n : Int)) W := by go_simp
theorem run_lenM3 (A : Option Addr) (n c : Nat) (ty : TypeId) (W : World) : (Builtin.len_ #[27] ty #[.slice A n c]).run Tryz.prog W = .ok (.int .i64 (n : Int)) W := by go_simp
theorem run_lenM5 (A : Option Addr) (n c : Nat) (ty : TypeId) (W : World) : (Builtin.len_ #[28] ty #[.slice A n c]).run Tryz.prog W = .ok (.int .i64 (n : Int)) W := by go_simp
theorem run_addM (x y : Operand) (a b : Int) (W : World) (h : IntKind.i64.wrap (a + b) = a + b) : (do eqGuard BinOp.add 3 x y (.int .i64 a) (.int .i64 b); binOp BinOp.add 3 (.int .i64 a) (.int .i64 b) : Sem Value).run Tryz.prog W = .ok (.int .i64 (a + b)) W := by go_simp
end Go.Proofs.YtffegkjlgeblbaaGreatDoor.Mdl
end
