/- RowG. -/
import Derived.Test.YtffegkjlgeblbaaGreatDoorPkUtfCame
import Derived.Lib.SmallJoins
import Derived.ProofKit
import Derived.OpenShut
import Derived.Deep.Slices
import Derived.ArgAppend
/- Rows of whatever elements, in memory: as they came in, and of the call's own. -/
namespace Go.Proofs.YtffegkjlgeblbaaGreatDoor.RowG
open Go.ChangeShapes Go.WideShapes Go.ChangeAt Go.RowKit Go.Joins
set_option maxRecDepth 100000
set_option maxHeartbeats 1000000
set_option linter.unusedVariables false
structure El (α : Type) where
  e : TypeId
  s : Nat
  z : Value
  bytes : Nat
  enc : α → List Value
  ok : World → α → Prop
  pos : 0 < s
  len : ∀ a, (enc a).length = s
  info : (Tryz.prog.info? e).map (fun i => (i.zero, i.size, i.bytes)) = some (some z, s, bytes)
  zs : z.cells.size = s
  stay : ∀ {w w' : World} {a : α}, ok w a → Below w.heap.size w w' → ok w' a
  one : ∀ {w : World} {a : α}, ok w a → ∀ u ∈ enc a, u.oneCell' = true
variable {α : Type}
def At (T : El α) (w : World) (g o : Nat) (a : α) : Prop := ∀ i u, (T.enc a)[i]? = some u → w.cell? ⟨g, o + i, none⟩ = some u
theorem At.keep {T : El α} {w w' : World} {g o : Nat} {a : α} (h : At T w g o a) (hg : g < w.heap.size) (hb : Below w.heap.size w w') : At T w' g o a := fun i u hu => by
  rw [hb.cell (p := ⟨g, o + i, none⟩) hg]
  exact h i u hu
def Row (T : El α) (w : World) (v : Value) (l : List α) : Prop :=
  (∃ A c, v = .slice A l.length c ∧ l.length ≤ c ∧ c ≤ 9223372036854775807 ∧ (l ≠ [] → ∃ g off, A = some ⟨g, off, none⟩ ∧ g < w.heap.size ∧ ∀ j p, l[j]? = some p → At T w g (off + j * T.s) p)) ∧ ∀ p ∈ l, T.ok w p
theorem Row.keep {T : El α} {w w' : World} {v : Value} {l : List α} (h : Row T w v l) (hb : Below w.heap.size w w') : Row T w' v l := by
  obtain ⟨⟨A, c, h1, h2, h3, h4⟩, h5⟩ := h
  refine ⟨⟨A, c, h1, h2, h3, fun h0 => ?_⟩, fun p hp => T.stay (h5 p hp) hb⟩
  obtain ⟨g, off, e, hg, hB⟩ := h4 h0
  exact ⟨g, off, e, Nat.lt_of_lt_of_le hg hb.size, fun j p hp => (hB j p hp).keep hg hb⟩
theorem Row.nil (T : El α) (w : World) : Row T w (.slice none 0 0) [] := ⟨⟨none, 0, rfl, Nat.le_refl _, by omega, fun h => absurd rfl h⟩, by simp⟩
theorem Row.form {T : El α} {w : World} {v : Value} {l : List α} (h : Row T w v l) : ∃ A c, v = .slice A l.length c ∧ l.length ≤ c ∧ c ≤ 9223372036854775807 := by
  obtain ⟨⟨A, c, h1, h2, h3, _⟩, _⟩ := h
  exact ⟨A, c, h1, h2, h3⟩
theorem Row.at_ {T : El α} {w : World} {A : Option Addr} {n c : Nat} {l : List α} (h : Row T w (.slice A n c) l) {j : Nat} {p : α} (hj : l[j]? = some p) : ∃ g off, A = some ⟨g, off, none⟩ ∧ g < w.heap.size ∧ At T w g (off + j * T.s) p ∧ T.ok w p := by
  obtain ⟨⟨A', c', h1, h2, h3, h4⟩, h5⟩ := h
  obtain ⟨g, off, e, hg, hB⟩ := h4 (fun e => by rw [e] at hj; simp at hj)
  injection h1 with e1 e2 e3
  subst e1
  exact ⟨g, off, e, hg, hB j p hj, h5 p (List.mem_of_getElem? hj)⟩
theorem g_plain (g off k : Nat) : (⟨g, off, none⟩ : Addr).add k = ⟨g, off + k, none⟩ := Utf.add_plain g off k
section
variable {H : Type} {enc : TypeId × Value → H} {w : World} {base : Nat}
theorem row_of (T : El α) {t : TypeId} (ht : Tryz.prog.underlying t = some (.slice T.e)) (hc : Tryz.prog.cellsOf T.e = T.s)
    (each : ∀ {n : Nat} {cs : List Value} {y : DataW H × List MemPlace}, cs.length = T.s → DataW.trod enc Tryz.prog w base (fun _ => true) true n T.e cs = some y → ∃ q : α, T.ok w q ∧ T.enc q = cs)
    {n : Nat} {v : Value} {y : DataW H × List MemPlace} (h : DataW.trod enc Tryz.prog w base (fun _ => true) true n t [v] = some y) : ∃ l, Row T w v l := by
  rcases Go.Deep.open_slice ht h with ⟨hcs, _⟩ | ⟨a, len, cap, m, k, D, Pl, hcs, hb, hl, hm, hmm, _, hx⟩
  · simp at hcs
    subst hcs
    exact ⟨[], Row.nil T w⟩
  · simp at hcs hmm
    subst hcs hmm
    have hsp : 0 < len → a.spot = none := fun h0 => by
      obtain ⟨cs', h1, h2⟩ := hx 0 (by omega)
      rw [hc] at h1
      obtain ⟨_, hlen, hcell⟩ := World.cells?_some h1
      have f0 := hcell 0 T.pos
      rw [Nat.zero_mul, show (a.add 0).add 0 = a from by unfold Addr.add; simp] at f0
      cases hq : cs'[0]? with
      | none =>
        have := List.getElem?_eq_none_iff.1 hq
        have := T.pos
        omega
      | some u =>
        rw [hq] at f0
        exact Utf.cell_spot (v := u) f0
    have each2 : ∀ i, i < len → ∃ q : α, T.ok w q ∧ At T w a.block (a.off + i * T.s) q := by
      intro i hi
      have hsp := hsp (by omega)
      obtain ⟨cs', h1, h2⟩ := hx i (by omega)
      rw [hc] at h1
      obtain ⟨_, hlen, hcell⟩ := World.cells?_some h1
      obtain ⟨q, hq, he⟩ := each hlen h2
      refine ⟨q, hq, fun j u hu => ?_⟩
      rw [he] at hu
      obtain ⟨hj, _⟩ := List.getElem?_eq_some_iff.1 hu
      have f := hcell j (by omega)
      rw [hu] at f
      obtain ⟨g, off, sp⟩ := a
      simp only at hsp
      subst hsp
      simp only [g_plain] at f
      exact f
    let l : List α := (List.range len).attach.map fun i => (each2 i.1 (List.mem_range.1 i.2)).choose
    have hlen : l.length = len := by simp [l]
    have hget : ∀ j p, l[j]? = some p → ∃ hj : j < len, p = (each2 j hj).choose := by
      intro j p hp
      obtain ⟨hj, e⟩ := List.getElem?_eq_some_iff.1 hp
      refine ⟨by rw [hlen] at hj; exact hj, ?_⟩
      rw [← e]
      simp [l]
    refine ⟨l, ⟨some a, m, by rw [hlen], by omega, by unfold maxLen at hm; omega, fun h0 => ?_⟩, fun p hp => ?_⟩
    · have hpos : 0 < len := by
        rcases Nat.eq_zero_or_pos len with e | e
        · exact absurd (List.length_eq_zero_iff.1 (hlen.trans e)) h0
        · exact e
      have hs0 := hsp hpos
      have hc0 := (each2 0 hpos).choose_spec.2
      have hlt : a.block < w.heap.size := by
        have h1 := T.len (each2 0 hpos).choose
        have h2 := T.pos
        exact World.block_lt_of_cell? w ⟨a.block, a.off + 0 * T.s + 0, none⟩ (hc0 0 _ (List.getElem?_eq_getElem (by omega)))
      refine ⟨a.block, a.off, by rw [← hs0], hlt, fun j p hp => ?_⟩
      obtain ⟨hj, rfl⟩ := hget j p hp
      exact (each2 j hj).choose_spec.2
    · obtain ⟨j, hj⟩ := List.getElem?_of_mem hp
      obtain ⟨hj', rfl⟩ := hget j p hj
      exact (each2 j hj').choose_spec.1
end
def Own (T : El α) (w : World) (B : Nat) (v : Value) (l : List α) : Prop := w.ownsRow B T.e T.s v l.length (l.flatMap T.enc)
theorem own_nil (T : El α) (w : World) (B : Nat) : Own T w B (.slice none 0 0) [] := ⟨by simp, .inl ⟨rfl, rfl⟩⟩
theorem own_keep {w w' : World} {B e s n : Nat} {v : Value} {xs : List Value} (h : w.ownsRow B e s v n xs) (hb : Below w.heap.size w w') : w'.ownsRow B e s v n xs := by
  obtain ⟨h1, h2⟩ := h
  refine ⟨h1, ?_⟩
  rcases h2 with h2 | ⟨g, cap, cur, hv, hB, hc, hr⟩
  · exact .inl h2
  · exact .inr ⟨g, cap, cur, hv, hB, by rw [hb.block g (Array.getElem?_eq_some_iff.1 hc).1]; exact hc, hr⟩
theorem Own.form {T : El α} {w : World} {B : Nat} {v : Value} {l : List α} (h : Own T w B v l) : ∃ P c, v = .slice P l.length c := by
  obtain ⟨_, ⟨hv, hl⟩ | ⟨g, cap, cur, hv, _⟩⟩ := h
  · exact ⟨none, 0, by rw [hv, hl]⟩
  · exact ⟨_, _, hv⟩
theorem flat_len (T : El α) : ∀ l : List α, (l.flatMap T.enc).length = l.length * T.s
  | [] => by simp
  | a :: l => by rw [List.flatMap_cons, List.length_append, flat_len T l, List.length_cons, T.len, Nat.add_mul, Nat.one_mul]; omega
theorem flat_get (T : El α) : ∀ (l : List α) (j i : Nat) (p : α), l[j]? = some p → i < T.s → (l.flatMap T.enc)[j * T.s + i]? = (T.enc p)[i]?
  | [], j, i, p, h, _ => by simp at h
  | q :: l, 0, i, p, h, hi => by
    simp at h
    subst h
    rw [List.flatMap_cons, Nat.zero_mul, Nat.zero_add, List.getElem?_append_left (by rw [T.len]; exact hi)]
  | q :: l, j + 1, i, p, h, hi => by
    rw [List.getElem?_cons_succ] at h
    rw [List.flatMap_cons, List.getElem?_append_right (by rw [T.len, Nat.add_mul, Nat.one_mul]; omega), T.len, show (j + 1) * T.s + i - T.s = j * T.s + i from by rw [Nat.add_mul, Nat.one_mul]; omega]
    exact flat_get T l j i p h hi
theorem Own.row {T : El α} {w : World} {B : Nat} {v : Value} {l : List α} (h : Own T w B v l) (hok : ∀ p ∈ l, T.ok w p) : Row T w v l := by
  obtain ⟨_, ⟨hv, hl⟩ | ⟨g, cap, cur, hv, hB, hc, hle, hm, hsz, ht⟩⟩ := id h
  · have : l = [] := List.length_eq_zero_iff.1 hl
    subst this
    subst hv
    exact Row.nil T w
  · refine ⟨⟨_, cap, hv, hle, by unfold maxLen at hm; omega, fun h0 => ⟨g, 0, rfl, (Array.getElem?_eq_some_iff.1 hc).1, fun j p hp i u hu => ?_⟩⟩, hok⟩
    have hi : i < T.s := by
      have := (List.getElem?_eq_some_iff.1 hu).1
      rw [T.len] at this
      exact this
    have e := World.ownsRow.cells h (g := g) (by subst hv; rfl) (j * T.s + i) u (by rw [flat_get T l j i p hp hi]; exact hu)
    rw [g_plain] at e
    rw [show 0 + j * T.s + i = 0 + (j * T.s + i) from by omega]
    exact e
theorem wp_oneG (T : El α) {ops : Array Oper} {rest : List Oper} {o : Oper} {a : Act} {Q : Exit → Act → World → Prop} (t : TypeId) (ht : Tryz.prog.underlying t = some (.slice T.e)) (w : World) (hgd : o.guard = none) (s x : Operand)
    (ho : o.op = .call { callee := .builtin .append, args := #[s, x], argTypes := #[t, t] }) (B : Nat) (v : Value) (done : List α) (p : α) (hp : T.ok w p) (hs : a.eval s = v) (hown : Own T w B v done) (g1 : Nat)
    (hx : a.eval x = .slice (some ⟨g1, 0, none⟩) 1 1) (hat : At T w g1 0 p) (hlen : done.length ≤ 1000000) (hby : T.bytes ≤ 1000) (hB : B ≤ w.heap.size)
    (h : ∀ v' w', Own T w' B v' (done ++ [p]) → Below B w w' → (∀ k, k < w.heap.size → some k ≠ v.ownBlock → w'.heap[k]? = w.heap[k]?) → wpList Tryz.prog ops Q rest (a.put o.dst v') w') : wpList Tryz.prog ops Q (o :: rest) a w := by
  obtain ⟨i0, hi, hz0, hz1, hz2⟩ := info_parts T.info
  have hbig : (done.length + 1) * T.bytes ≤ 140737488355328 := by
    have h1 : (done.length + 1) * T.bytes ≤ 1000001 * 1000 := Nat.mul_le_mul (by omega) hby
    omega
  refine wpList_append_own _ hgd s x t ho B T.e i0 T.z T.s T.bytes ht hi hz0 hz1 hz2 T.zs T.pos v _ _ hs hown ⟨g1, 0, none⟩ 1 1 (T.enc p) hx (by rw [T.len, Nat.one_mul]) (fun j u hu => by rw [g_plain]; exact hat j u hu) (T.one hp) (by simp only [maxLen]; omega) hbig hB ?_
  intro v' w' ho' hg hn
  refine h v' w' ?_ ((Below.refl _ _).grown hg hB (fun k hk => (World.ownsRow.lt hown k hk).1)) (fun k hk hne => hg.block k hk hne)
  have ho2 : w'.ownsRow B T.e T.s v' (done ++ [p]).length ((done ++ [p]).flatMap T.enc) := by
    rw [List.flatMap_append, List.length_append]
    simpa using ho'
  exact ho2
end Go.Proofs.YtffegkjlgeblbaaGreatDoor.RowG
