/- Sections in a row, in memory: as they came in, and of the call's own. -/
import Derived.Test.YtkdnhhhgggmapaaUtfLay
import Derived.Test.YtkdnhhhgggmapaaUtfCame
import Derived.Lib.SmallJoins
import Derived.ProofKit
import Derived.OpenShut
import Derived.Deep.Slices
namespace Go.Proofs.Ytkdnhhhgggmapaa.Sec
open Go.ChangeShapes Go.WideShapes Go.ChangeAt Go.RowKit Go.Joins Utf
set_option maxRecDepth 100000
set_option maxHeartbeats 1000000
set_option linter.unusedVariables false

/-- A section: its ID and its bytes. -/
abbrev Sct := Int × List Int
/-- A section's two cells in memory: the ID, and a slice. -/
def ScCells (w : World) (g o : Nat) (p : Sct × Value) : Prop := w.cell? ⟨g, o, none⟩ = some (.int .i64 p.1.1) ∧ w.cell? ⟨g, o + 1, none⟩ = some p.2
theorem ScCells.keep {w w' : World} {g o : Nat} {p : Sct × Value} (h : ScCells w g o p) (hg : g < w.heap.size) (hb : Below w.heap.size w w') : ScCells w' g o p := by
  have key : ∀ i, w'.cell? ⟨g, i, none⟩ = w.cell? ⟨g, i, none⟩ := fun i => hb.cell (p := ⟨g, i, none⟩) hg
  unfold ScCells
  rw [key, key]
  exact h
/-- What is asked of each: its bytes lie somewhere. -/
def ScOk (w : World) (p : Sct × Value) : Prop := Sl w p.2 p.1.2 ∧ ∀ x ∈ p.1.2, 0 ≤ x ∧ x < 256
theorem ScOk.keep {w w' : World} {p : Sct × Value} (h : ScOk w p) (hb : Below w.heap.size w w') : ScOk w' p := ⟨h.1.keep hb, h.2⟩
/-- Sections in a row. -/
def ScRow (w : World) (v : Value) (l : List (Sct × Value)) : Prop :=
  (∃ A c, v = .slice A l.length c ∧ l.length ≤ c ∧ c ≤ 9223372036854775807 ∧ (l ≠ [] → ∃ g off, A = some ⟨g, off, none⟩ ∧ g < w.heap.size ∧ ∀ j p, l[j]? = some p → ScCells w g (off + j * 2) p)) ∧ ∀ p ∈ l, ScOk w p
theorem ScRow.keep {w w' : World} {v : Value} {l : List (Sct × Value)} (h : ScRow w v l) (hb : Below w.heap.size w w') : ScRow w' v l := by
  obtain ⟨⟨A, c, h1, h2, h3, h4⟩, h5⟩ := h
  refine ⟨⟨A, c, h1, h2, h3, fun h0 => ?_⟩, fun p hp => (h5 p hp).keep hb⟩
  obtain ⟨g, off, e, hg, hB⟩ := h4 h0
  exact ⟨g, off, e, Nat.lt_of_lt_of_le hg hb.size, fun j p hp => (hB j p hp).keep hg hb⟩
theorem ScRow.nil (w : World) : ScRow w (.slice none 0 0) [] := ⟨⟨none, 0, rfl, Nat.le_refl _, by omega, fun h => absurd rfl h⟩, by simp⟩
theorem ScRow.at_ {w : World} {A : Option Addr} {n c : Nat} {l : List (Sct × Value)} (h : ScRow w (.slice A n c) l) {j : Nat} {p : Sct × Value} (hj : l[j]? = some p) : ∃ g off, A = some ⟨g, off, none⟩ ∧ ScCells w g (off + j * 2) p ∧ ScOk w p := by
  obtain ⟨⟨A', c', h1, h2, h3, h4⟩, h5⟩ := h
  obtain ⟨g, off, e, hg, hB⟩ := h4 (fun e => by rw [e] at hj; simp at hj)
  injection h1 with e1 e2 e3
  subst e1
  exact ⟨g, off, e, hB j p hj, h5 p (List.mem_of_getElem? hj)⟩
theorem cellsS : Try.prog.cellsOf 43 = 2 := by kernel_rfl
theorem cInt : Try.prog.cellsOf 3 = 1 := by kernel_rfl
theorem cBy : Try.prog.cellsOf 22 = 1 := by kernel_rfl
theorem s_plain (g off k : Nat) : (⟨g, off, none⟩ : Addr).add k = ⟨g, off + k, none⟩ := Utf.add_plain g off k
section
variable {H : Type} {enc : TypeId × Value → H} {w : World} {base : Nat}
theorem rowb_of {n : Nat} {v : Value} {y : DataW H × List MemPlace} (h : DataW.trod enc Try.prog w base (fun _ => true) true n 22 [v] = some y) : ∃ (a : Option Addr) (l c : Nat) (zs : List Int), v = .slice a l c ∧ Leb.Came .u8 w a l c zs := by
  rcases open_ints Try.underlying22 Try.underlying5 (by kernel_rfl) h with ⟨hcs, _⟩ | ⟨x, l, c, zs, hcs, _, hl, hm, hz, _, hcell, hwz⟩
  · simp at hcs
    subst hcs
    exact ⟨none, 0, 0, [], rfl, .inl ⟨rfl, rfl, rfl, rfl⟩⟩
  · simp at hcs
    subst hcs
    exact ⟨some x, l, c, zs, rfl, .inr ⟨_, rfl, hl, hm, by simpa using hz, hcell, hwz⟩⟩
/-- A section's two cells, as they came in. -/
theorem sc_cells {n : Nat} {c0 c1 : Value} {y : DataW H × List MemPlace} (h : DataW.trod enc Try.prog w base (fun _ => true) true n 43 [c0, c1] = some y) :
    ∃ (id : Int) (a : Option Addr) (l c : Nat) (zs : List Int), c0 = .int .i64 id ∧ c1 = .slice a l c ∧ Leb.Came .u8 w a l c zs := by
  obtain ⟨ys, m, _, _, _, hlen, hf⟩ := DataW.trod_struct Try.underlying43 h
  have h0 : DataW.trod enc Try.prog w base (fun _ => true) true m 3 (([c0, c1].drop 0).take (Try.prog.cellsOf 3)) = ys[0]? := hf 0 _ rfl
  have h1 : DataW.trod enc Try.prog w base (fun _ => true) true m 22 (([c0, c1].drop 1).take (Try.prog.cellsOf 22)) = ys[1]? := hf 1 _ rfl
  rw [cInt] at h0
  rw [cBy] at h1
  match ys, hlen with
  | [y0, y1], _ =>
    obtain ⟨op, e0, _, w0⟩ := DataW.trod_int Try.underlying3 (x := y0) (by rw [h0]; rfl)
    obtain ⟨a, l, c, zs, e4, g4⟩ := rowb_of (v := c1) (y := y1) (by simpa using h1)
    simp at e0
    exact ⟨op, a, l, c, zs, e0, e4, g4⟩
theorem scrow_of {n : Nat} {v : Value} {y : DataW H × List MemPlace} (h : DataW.trod enc Try.prog w base (fun _ => true) true n 23 [v] = some y) : ∃ l, ScRow w v l := by
  rcases Go.Deep.open_slice Try.underlying23 h with ⟨hcs, _⟩ | ⟨a, len, cap, m, k, D, Pl, hcs, hb, hl, hm, hmm, _, hx⟩
  · simp at hcs
    subst hcs
    exact ⟨[], ScRow.nil w⟩
  · simp at hcs hmm
    subst hcs hmm
    have hsp : 0 < len → a.spot = none := fun h0 => by
      obtain ⟨cs', h1, h2⟩ := hx 0 (by omega)
      rw [cellsS] at h1
      obtain ⟨_, hlen, hcell⟩ := World.cells?_some h1
      match cs', hlen with
      | [c0, c1], _ =>
        have f0 := hcell 0 (by decide)
        rw [Nat.zero_mul, show (a.add 0).add 0 = a from by unfold Addr.add; simp] at f0
        exact Utf.cell_spot (v := c0) f0
    have each : ∀ i, i < len → ∃ q : Sct × Value, ScOk w q ∧ ScCells w a.block (a.off + i * 2) q := by
      intro i hi
      have hsp := hsp (by omega)
      obtain ⟨cs', h1, h2⟩ := hx i (by omega)
      rw [cellsS] at h1
      obtain ⟨_, hlen, hcell⟩ := World.cells?_some h1
      match cs', hlen with
      | [c0, c1], _ =>
        obtain ⟨op, a4, l4, k4, zs, rfl, rfl, g4⟩ := sc_cells h2
        have f0 := hcell 0 (by decide)
        have f1 := hcell 1 (by decide)
        obtain ⟨g, off, sp⟩ := a
        simp only at hsp
        subst hsp
        simp only [s_plain] at f0 f1
        obtain ⟨s1, s2⟩ := came_sl g4
        refine ⟨((op, zs.take l4), .slice a4 l4 k4), ⟨s1, s2⟩, ?_⟩
        exact ⟨by simpa using f0, by simpa using f1⟩
    let l : List (Sct × Value) := (List.range len).map fun i => if hi : i < len then (each i hi).choose else ((0, []), .slice none 0 0)
    have hlen : l.length = len := by simp [l]
    have hget : ∀ j p, l[j]? = some p → ∃ hj : j < len, p = (each j hj).choose := by
      intro j p hp
      have hj : j < len := by
        by_cases hh : j < len
        · exact hh
        · rw [List.getElem?_eq_none (by omega)] at hp; cases hp
      refine ⟨hj, ?_⟩
      simp only [l, List.getElem?_map, List.getElem?_range hj, Option.map_some, Option.some.injEq] at hp
      rw [dif_pos hj] at hp
      exact hp.symm
    refine ⟨l, ⟨some a, m, by rw [hlen], by omega, by unfold maxLen at hm; omega, fun h0 => ?_⟩, fun p hp => ?_⟩
    · have hpos : 0 < len := by
        rcases Nat.eq_zero_or_pos len with e | e
        · exact absurd (List.length_eq_zero_iff.1 (hlen.trans e)) h0
        · exact e
      have hs0 := hsp hpos
      have hc0 := (each 0 hpos).choose_spec.2.1
      refine ⟨a.block, a.off, by rw [← hs0], World.block_lt_of_cell? w ⟨a.block, a.off + 0 * 2, none⟩ hc0, fun j p hp => ?_⟩
      obtain ⟨hj, rfl⟩ := hget j p hp
      exact (each j hj).choose_spec.2
    · obtain ⟨j, hj⟩ := List.getElem?_of_mem hp
      obtain ⟨hj', rfl⟩ := hget j p hj
      exact (each j hj').choose_spec.1
theorem scs_of {r : Reach} {b0 : Nat} {v : Value} {d : DataW H} {p : List MemPlace} (hv : Value.okWide Try.prog w r b0 23 v) (h : DataW.Trod enc Try.prog w base (fun _ => true) true 23 v d p) : ∃ l, ScRow w v l := by
  obtain ⟨a, l, c, rfl⟩ := okWide_slice Try.underlying23 hv
  obtain ⟨fuel, hf⟩ := h
  exact scrow_of hf
end
/-- A section's cells, as values. -/
def s2 (p : Sct × Value) : List Value := [.int .i64 p.1.1, p.2]
/-- Sections in a row of the call's own. -/
def OwnS (e : TypeId) (w : World) (B : Nat) (v : Value) (l : List (Sct × Value)) : Prop := w.ownsRow B e 2 v l.length (l.flatMap s2)
theorem ownS_nil (e : TypeId) (w : World) (B : Nat) : OwnS e w B (.slice none 0 0) [] := ⟨rfl, .inl ⟨rfl, rfl⟩⟩
theorem own_keep {w w' : World} {B e s n : Nat} {v : Value} {xs : List Value} (h : w.ownsRow B e s v n xs) (hb : Below w.heap.size w w') : w'.ownsRow B e s v n xs := by
  obtain ⟨h1, h2⟩ := h
  refine ⟨h1, ?_⟩
  rcases h2 with h2 | ⟨g, cap, cur, hv, hB, hc, hr⟩
  · exact .inl h2
  · exact .inr ⟨g, cap, cur, hv, hB, by rw [hb.block g (Array.getElem?_eq_some_iff.1 hc).1]; exact hc, hr⟩
theorem OwnS.form {e : TypeId} {w : World} {B : Nat} {v : Value} {l : List (Sct × Value)} (h : OwnS e w B v l) : ∃ P c, v = .slice P l.length c := by
  obtain ⟨_, ⟨hv, hl⟩ | ⟨g, cap, cur, hv, _⟩⟩ := h
  · exact ⟨none, 0, by rw [hv, hl]⟩
  · exact ⟨_, _, hv⟩
theorem flatS : ∀ (l : List (Sct × Value)) (j i : Nat) (p : Sct × Value), l[j]? = some p → i < 2 → (l.flatMap s2)[j * 2 + i]? = (s2 p)[i]?
  | [], j, i, p, h, _ => by simp at h
  | q :: l, 0, i, p, h, hi => by
    simp at h
    subst h
    rw [List.flatMap_cons, Nat.zero_mul, Nat.zero_add, List.getElem?_append_left (by simp [s2]; omega)]
  | q :: l, j + 1, i, p, h, hi => by
    rw [List.getElem?_cons_succ] at h
    rw [List.flatMap_cons, List.getElem?_append_right (by simp [s2]; omega), show (j + 1) * 2 + i - (s2 q).length = j * 2 + i from by simp [s2]; omega]
    exact flatS l j i p h hi
theorem OwnS.row {e : TypeId} {w : World} {B : Nat} {v : Value} {l : List (Sct × Value)} (h : OwnS e w B v l) (hok : ∀ p ∈ l, ScOk w p) : ScRow w v l := by
  obtain ⟨_, ⟨hv, hl⟩ | ⟨g, cap, cur, hv, hB, hc, hle, hm, hsz, ht⟩⟩ := id h
  · have : l = [] := List.length_eq_zero_iff.1 hl
    subst this
    subst hv
    exact ScRow.nil w
  · refine ⟨⟨_, cap, hv, hle, by unfold maxLen at hm; omega, fun h0 => ⟨g, 0, rfl, (Array.getElem?_eq_some_iff.1 hc).1, fun j p hp => ?_⟩⟩, hok⟩
    have key : ∀ i u, i < 2 → (s2 p)[i]? = some u → w.cell? ⟨g, 0 + j * 2 + i, none⟩ = some u := by
      intro i u hi hu
      have e := World.ownsRow.cells h (g := g) (by subst hv; rfl) (j * 2 + i) u (by rw [flatS l j i p hp hi]; exact hu)
      rw [s_plain] at e
      rw [show 0 + j * 2 + i = 0 + (j * 2 + i) from by omega]
      exact e
    exact ⟨key 0 _ (by decide) rfl, key 1 _ (by decide) rfl⟩
theorem sect_info : (Try.prog.info? 43).map (fun i => (i.zero, i.size, i.bytes)) = some (some (.agg #[.int .i64 0, .slice none 0 0]), 2, 32) := by kernel_rfl
theorem psect_info : (Try.prog.info? 40).map (fun i => (i.zero, i.size, i.bytes)) = some (some (.agg #[.int .i64 0, .slice none 0 0]), 2, 32) := by kernel_rfl
theorem newS (e : TypeId) (w : World) (p : Sct × Value) : ∀ j u, (s2 p)[j]? = some u → (w.alloc (.cells #[.int .i64 p.1.1, p.2] e)).cell? ((⟨w.heap.size, 0, none⟩ : Addr).add j) = some u := by
  intro j u hu
  rw [s_plain]
  rcases j with _ | _ | j
  · simp [s2] at hu; subst hu; simp
  · simp [s2] at hu; subst hu; simp
  · simp [s2] at hu
/-- 'append(s, p)' on sections of the call's own. -/
theorem wp_oneS {ops : Array Oper} {rest : List Oper} {o : Oper} {a : Act} {Q : Exit → Act → World → Prop} (e t : TypeId) (ht : Try.prog.underlying t = some (.slice e)) (hi : (Try.prog.info? e).map (fun i => (i.zero, i.size, i.bytes)) = some (some (.agg #[.int .i64 0, .slice none 0 0]), 2, 32)) (w : World) (hgd : o.guard = none) (s x : Operand)
    (ho : o.op = .call { callee := .builtin .append, args := #[s, x], argTypes := #[t, t] }) (B : Nat) (v : Value) (done : List (Sct × Value)) (p : Sct × Value) (hp : ∃ P n c, p.2 = .slice P n c) (hs : a.eval s = v) (hown : OwnS e w B v done)
    (hx : a.eval x = .slice (some ⟨w.heap.size, 0, none⟩) 1 1) (hlen : done.length ≤ 1000000) (hB : B ≤ w.heap.size)
    (h : ∀ v' w', OwnS e w' B v' (done ++ [p]) → Below B w w' → (∀ k, k < w.heap.size → some k ≠ v.ownBlock → w'.heap[k]? = w.heap[k]?) → wpList Try.prog ops Q rest (a.put o.dst v') w') : wpList Try.prog ops Q (o :: rest) a (w.alloc (.cells #[.int .i64 p.1.1, p.2] e)) := by
  obtain ⟨i0, hi, hz0, hz1, hz2⟩ := info_parts hi
  refine wpList_append_own _ hgd s x t ho B e i0 (.agg #[.int .i64 0, .slice none 0 0]) 2 32 ht hi hz0 hz1 hz2 rfl (by decide) v _ _ hs (World.ownsRow.alloc hown _) ⟨w.heap.size, 0, none⟩ 1 1 (s2 p) hx rfl (newS e w p) ?_ (by simp only [maxLen]; omega) (by omega) (by simp; omega) ?_
  · obtain ⟨P, n, c, e⟩ := hp
    intro u hu
    simp only [s2, e, List.mem_cons, List.not_mem_nil, or_false] at hu
    rcases hu with rfl | rfl <;> rfl
  · intro v' w' ho' hg hn
    refine h v' w' ?_ (((Below.refl _ _).alloc hB _).grown hg (by simp; omega) (fun k hk => (World.ownsRow.lt hown k hk).1)) (fun k hk hne => (hg.block k (by simp; omega) hne).trans (((Below.refl w.heap.size w).alloc (Nat.le_refl _) _).block k hk))
    have ho2 : w'.ownsRow B e 2 v' (done ++ [p]).length ((done ++ [p]).flatMap s2) := by
      rw [List.flatMap_append, List.length_append]
      simpa using ho'
    exact ho2
end Go.Proofs.Ytkdnhhhgggmapaa.Sec
