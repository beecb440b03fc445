/- The document's FromRunes, walked. -/
import Derived.Test.YtkdnhhhgggmapaaUtfValid
namespace Go.Proofs.Ytkdnhhhgggmapaa.Utf
open Go.RowKit
set_option maxRecDepth 100000
set_option maxHeartbeats 400000

theorem byte_info : (Try.prog.info? 5).map (fun i => (i.zero, i.size, i.bytes)) = some (some (.int .u8 0), 1, 1) := by kernel_rfl
theorem vb_oneCell (l : List Int) : ∀ u ∈ vb l, u.oneCell' = true := by
  intro u hu
  obtain ⟨n, _, rfl⟩ := List.mem_map.1 hu
  rfl
/-- Bytes of the call's own, from block B on. -/
def OwnB (w : World) (B : Nat) (v : Value) (l : List Int) : Prop := w.ownsRow B 5 1 v l.length (vb l)
theorem ownB_nil (w : World) (B : Nat) : OwnB w B (.slice none 0 0) [] := ⟨rfl, .inl ⟨rfl, rfl⟩⟩
theorem OwnB.block {w : World} {B : Nat} {v : Value} {l : List Int} (h : OwnB w B v l) : ∀ k, v.ownBlock = some k → B ≤ k := fun k hk => (World.ownsRow.lt h k hk).1
theorem OwnB.keep {w w' : World} {B : Nat} {v : Value} {l : List Int} (h : OwnB w B v l) (hb : Below w.heap.size w w') : OwnB w' B v l :=
  World.ownsRow.kept h ⟨hb.os, hb.tape, hb.output, hb.size, fun k hk _ => hb.block k hk⟩ (row := none) (by cases v.ownBlock <;> simp)
theorem Byt.cells {w : World} {B g off : Nat} {l : List Int} (h : Byt w B ⟨g, off, none⟩ l) : ∀ j u, (vb l)[j]? = some u → w.cell? ((⟨g, off, none⟩ : Addr).add j) = some u := by
  intro j u hu
  unfold vb at hu
  rw [List.getElem?_map] at hu
  by_cases hj : j < l.length
  · have e := h.2.2 j hj
    rw [List.getElem?_eq_getElem hj] at hu
    simp at hu
    subst hu
    have e2 : l.getD j 0 = l[j] := by simp [hj]
    rw [e2] at e
    cases j with
    | zero => simpa [Addr.add] using e
    | succ j => simpa [Addr.add] using e
  · rw [List.getElem?_eq_none (by omega)] at hu
    simp at hu
/-- 'append(s, x...)' on bytes of the call's own. -/
theorem wp_spread {ops : Array Oper} {rest : List Oper} {o : Oper} {a : Act} {Q : Exit → Act → World → Prop} (w : World) (hgd : o.guard = none) (s x : Operand)
    (ho : o.op = .call { callee := .builtin .append, args := #[s, x], argTypes := #[22, 22] }) (B : Nat) (v : Value) (done : List Int) (g off c : Nat) (y : List Int) (hs : a.eval s = v) (hown : OwnB w B v done)
    (hx : a.eval x = .slice (some ⟨g, off, none⟩) y.length c) (hy : Byt w w.heap.size ⟨g, off, none⟩ y) (hlen : done.length + y.length ≤ 10000000) (hB : B ≤ w.heap.size)
    (h : ∀ v' w', OwnB w' B v' (done ++ y) → Below B w w' → wpList Try.prog ops Q rest (a.put o.dst v') w') : wpList Try.prog ops Q (o :: rest) a w := by
  obtain ⟨i0, hi, hz0, hz1, hz2⟩ := info_parts byte_info
  refine wpList_append_own _ hgd s x 22 ho B 5 i0 (.int .u8 0) 1 1 Try.underlying22 hi hz0 hz1 hz2 rfl (by decide) v _ _ hs hown ⟨g, off, none⟩ y.length c (vb y) hx (by rw [vb_length, Nat.mul_one]) hy.cells (vb_oneCell y) (by simp only [maxLen]; omega) (by omega) hB ?_
  intro v' w' ho' hg hn
  refine h v' w' ?_ ((Below.refl _ _).grown hg (by omega) hown.block)
  have ho2 : w'.ownsRow B 5 1 v' (done ++ y).length (vb (done ++ y)) := by simpa [vb] using ho'
  exact ho2
/-- Whole numbers: none at all (wherever), or a row of them somewhere. -/
def SlI (w : World) (v : Value) (l : List Int) : Prop :=
  ∃ A c, v = .slice A l.length c ∧ l.length ≤ c ∧ c ≤ 9223372036854775807 ∧ (l ≠ [] → ∃ g off, A = some ⟨g, off, none⟩ ∧ g < w.heap.size ∧ IntAt w g off l)
theorem IntAt.keep {w w' : World} {B g off : Nat} {l : List Int} (h : IntAt w g off l) (hg : g < B) (hb : Below B w w') : IntAt w' g off l :=
  fun j hj => by rw [hb.cell (p := ⟨g, off + j, none⟩) hg]; exact h j hj
theorem SlI.keep {w w' : World} {v : Value} {l : List Int} (h : SlI w v l) (hb : Below w.heap.size w w') : SlI w' v l := by
  obtain ⟨A, c, h1, h2, h3, h4⟩ := h
  refine ⟨A, c, h1, h2, h3, fun h0 => ?_⟩
  obtain ⟨g, off, e, hg, hB⟩ := h4 h0
  exact ⟨g, off, e, Nat.lt_of_lt_of_le hg hb.size, hB.keep hg hb⟩
/-- How FromRunes ends. -/
def FrEnds (l : List Int) (w : World) (e : Ending) (w' : World) : Prop :=
  (((∀ v ∈ l, okR v) ∧ ∃ o, e = .returned (.tuple #[o, .bool true]) ∧ OwnB w' w.heap.size o (l.flatMap enc)) ∨ ((∃ v ∈ l, ¬ okR v) ∧ e = .returned (.tuple #[.slice none 0 0, .bool false]))) ∧ Below w.heap.size w w'
theorem flat_len (l : List Int) : (l.flatMap enc).length ≤ 4 * l.length := by
  induction l with
  | nil => simp
  | cons x l ih =>
    have := (enc_len x).2
    simp only [List.flatMap_cons, List.length_append, List.length_cons]
    omega
theorem take_more {l : List Int} {k : Nat} (h : k < l.length) : l.take (k + 1) = l.take k ++ [l.getD k 0] := by
  rw [List.take_succ_eq_append_getElem h]
  simp [h]
/-- A row of the call's own is a row somewhere. -/
theorem own_cells {w : World} {B g cap : Nat} {v : Value} {n : Nat} {xs : List Value} {t : TypeId} (h : w.ownsRow B t 1 v n xs) (hv : v = .slice (some ⟨g, 0, none⟩) n cap) : ∀ j u, xs[j]? = some u → w.cell? ⟨g, 0 + j, none⟩ = some u := by
  intro j u hu
  have e := World.ownsRow.cells h (g := g) (by subst hv; rfl) j u hu
  cases j with
  | zero => simpa [Addr.add] using e
  | succ j => simpa [Addr.add] using e
theorem OwnI.sl {w : World} {B : Nat} {v : Value} {l : List Int} (h : OwnI w B v l) : SlI w v l := by
  have h' := h
  obtain ⟨_, ⟨hv, hl⟩ | ⟨g, cap, cur, hv, hB, hc, hle, hm, hsz, ht⟩⟩ := h'
  · have : l = [] := List.length_eq_zero_iff.1 hl
    subst this
    exact ⟨none, 0, hv, Nat.le_refl _, by omega, fun h => absurd rfl h⟩
  · refine ⟨_, cap, hv, hle, by unfold maxLen at hm; omega, fun h0 => ⟨g, 0, rfl, ?_, fun j hj => own_cells h hv j _ ?_⟩⟩
    · exact (Array.getElem?_eq_some_iff.1 hc).1
    · unfold vi; rw [List.getElem?_map, List.getElem?_eq_getElem hj]; simp [hj]
theorem OwnB.sl {w : World} {B : Nat} {v : Value} {l : List Int} (h : OwnB w B v l) : Sl w v l := by
  have h' := h
  obtain ⟨_, ⟨hv, hl⟩ | ⟨g, cap, cur, hv, hB, hc, hle, hm, hsz, ht⟩⟩ := h'
  · have : l = [] := List.length_eq_zero_iff.1 hl
    subst this
    exact ⟨none, 0, hv, Nat.le_refl _, by omega, fun h => absurd rfl h⟩
  · refine ⟨_, cap, hv, hle, by unfold maxLen at hm; omega, fun h0 => ⟨g, 0, rfl, ?_, rfl, fun j hj => own_cells h hv j _ ?_⟩⟩
    · exact (Array.getElem?_eq_some_iff.1 hc).1
    · unfold vb; rw [List.getElem?_map, List.getElem?_eq_getElem hj]; simp [hj]
end Go.Proofs.Ytkdnhhhgggmapaa.Utf
