/- SecBase, SecFind, SecSame, SecSplit, SecSplitB, SecCustom, SecPA, SecMath. -/
import Derived.Test.YtffegkjlgeblbaaGreatDoorPkUtfCame
import Derived.Lib.SmallJoins
import Derived.ProofKit
import Derived.OpenShut
import Derived.Deep.Slices
import Derived.Deep.QuietTactic
import Derived.BigQuiet
import Derived.Deep.RegionLaw
import Derived.Deep.CutRange
import Derived.Lib.LazyBuf
section
/- Sections in a row, in memory: as they came in, and of the call's own. -/
namespace Go.Proofs.YtffegkjlgeblbaaGreatDoor.Sec
open Go.ChangeShapes Go.WideShapes Go.ChangeAt Go.RowKit Go.Joins Utf
set_option maxRecDepth 100000
set_option maxHeartbeats 1000000
set_option linter.unusedVariables false

abbrev Sct := Int × List Int
def ScCells (w : World) (g o : Nat) (p : Sct × Value) : Prop := w.cell? ⟨g, o, none⟩ = some (.int .i64 p.1.1) ∧ w.cell? ⟨g, o + 1, none⟩ = some p.2
theorem ScCells.keep {w w' : World} {g o : Nat} {p : Sct × Value} (h : ScCells w g o p) (hg : g < w.heap.size) (hb : Below w.heap.size w w') : ScCells w' g o p := by
  have key : ∀ i, w'.cell? ⟨g, i, none⟩ = w.cell? ⟨g, i, none⟩ := fun i => hb.cell (p := ⟨g, i, none⟩) hg
  unfold ScCells
  rw [key, key]
  exact h
def ScOk (w : World) (p : Sct × Value) : Prop := Sl w p.2 p.1.2 ∧ ∀ x ∈ p.1.2, 0 ≤ x ∧ x < 256
theorem ScOk.keep {w w' : World} {p : Sct × Value} (h : ScOk w p) (hb : Below w.heap.size w w') : ScOk w' p := ⟨h.1.keep hb, h.2⟩
def ScRow (w : World) (v : Value) (l : List (Sct × Value)) : Prop :=
  (∃ A c, v = .slice A l.length c ∧ l.length ≤ c ∧ c ≤ 9223372036854775807 ∧ (l ≠ [] → ∃ g off, A = some ⟨g, off, none⟩ ∧ g < w.heap.size ∧ ∀ j p, l[j]? = some p → ScCells w g (off + j * 2) p)) ∧ ∀ p ∈ l, ScOk w p
theorem ScRow.keep {w w' : World} {v : Value} {l : List (Sct × Value)} (h : ScRow w v l) (hb : Below w.heap.size w w') : ScRow w' v l := by
  obtain ⟨⟨A, c, h1, h2, h3, h4⟩, h5⟩ := h
  refine ⟨⟨A, c, h1, h2, h3, fun h0 => ?_⟩, fun p hp => (h5 p hp).keep hb⟩
  obtain ⟨g, off, e, hg, hB⟩ := h4 h0
  exact ⟨g, off, e, Nat.lt_of_lt_of_le hg hb.size, fun j p hp => (hB j p hp).keep hg hb⟩
theorem ScRow.nil (w : World) : ScRow w (.slice none 0 0) [] := ⟨⟨none, 0, rfl, Nat.le_refl _, by omega, fun h => absurd rfl h⟩, by simp⟩
theorem ScRow.at_ {w : World} {A : Option Addr} {n c : Nat} {l : List (Sct × Value)} (h : ScRow w (.slice A n c) l) {j : Nat} {p : Sct × Value} (hj : l[j]? = some p) : ∃ g off, A = some ⟨g, off, none⟩ ∧ ScCells w g (off + j * 2) p ∧ ScOk w p := by
  obtain ⟨⟨A', c', h1, h2, h3, h4⟩, h5⟩ := h
  obtain ⟨g, off, e, hg, hB⟩ := h4 (fun e => by rw [e] at hj; simp at hj)
  injection h1 with e1 e2 e3
  subst e1
  exact ⟨g, off, e, hB j p hj, h5 p (List.mem_of_getElem? hj)⟩
theorem s_plain (g off k : Nat) : (⟨g, off, none⟩ : Addr).add k = ⟨g, off + k, none⟩ := Utf.add_plain g off k
section
variable {H : Type} {enc : TypeId × Value → H} {w : World} {base : Nat}
end
def s2 (p : Sct × Value) : List Value := [.int .i64 p.1.1, p.2]
def OwnS (e : TypeId) (w : World) (B : Nat) (v : Value) (l : List (Sct × Value)) : Prop := w.ownsRow B e 2 v l.length (l.flatMap s2)
theorem ownS_nil (e : TypeId) (w : World) (B : Nat) : OwnS e w B (.slice none 0 0) [] := ⟨rfl, .inl ⟨rfl, rfl⟩⟩
theorem own_keep {w w' : World} {B e s n : Nat} {v : Value} {xs : List Value} (h : w.ownsRow B e s v n xs) (hb : Below w.heap.size w w') : w'.ownsRow B e s v n xs := by
  obtain ⟨h1, h2⟩ := h
  refine ⟨h1, ?_⟩
  rcases h2 with h2 | ⟨g, cap, cur, hv, hB, hc, hr⟩
  · exact .inl h2
  · exact .inr ⟨g, cap, cur, hv, hB, by rw [hb.block g (Array.getElem?_eq_some_iff.1 hc).1]; exact hc, hr⟩
theorem flatS : ∀ (l : List (Sct × Value)) (j i : Nat) (p : Sct × Value), l[j]? = some p → i < 2 → (l.flatMap s2)[j * 2 + i]? = (s2 p)[i]?
  | [], j, i, p, h, _ => by simp at h
  | q :: l, 0, i, p, h, hi => by
    simp at h
    subst h
    rw [List.flatMap_cons, Nat.zero_mul, Nat.zero_add, List.getElem?_append_left (by simp [s2]; omega)]
  | q :: l, j + 1, i, p, h, hi => by
    rw [List.getElem?_cons_succ] at h
    rw [List.flatMap_cons, List.getElem?_append_right (by simp [s2]; omega), show (j + 1) * 2 + i - (s2 q).length = j * 2 + i from by simp [s2]; omega]
    exact flatS l j i p h hi
theorem OwnS.row {e : TypeId} {w : World} {B : Nat} {v : Value} {l : List (Sct × Value)} (h : OwnS e w B v l) (hok : ∀ p ∈ l, ScOk w p) : ScRow w v l := by
  obtain ⟨_, ⟨hv, hl⟩ | ⟨g, cap, cur, hv, hB, hc, hle, hm, hsz, ht⟩⟩ := id h
  · have : l = [] := List.length_eq_zero_iff.1 hl
    subst this
    subst hv
    exact ScRow.nil w
  · refine ⟨⟨_, cap, hv, hle, by unfold maxLen at hm; omega, fun h0 => ⟨g, 0, rfl, (Array.getElem?_eq_some_iff.1 hc).1, fun j p hp => ?_⟩⟩, hok⟩
    have key : ∀ i u, i < 2 → (s2 p)[i]? = some u → w.cell? ⟨g, 0 + j * 2 + i, none⟩ = some u := by
      intro i u hi hu
      have e := World.ownsRow.cells h (g := g) (by subst hv; rfl) (j * 2 + i) u (by rw [flatS l j i p hp hi]; exact hu)
      rw [s_plain] at e
      rw [show 0 + j * 2 + i = 0 + (j * 2 + i) from by omega]
      exact e
    exact ⟨key 0 _ (by decide) rfl, key 1 _ (by decide) rfl⟩
theorem psect_info : (Tryz.prog.info? 54).map (fun i => (i.zero, i.size, i.bytes)) = some (some (.agg #[.int .i64 0, .slice none 0 0]), 2, 32) := by kernel_rfl
theorem newS (e : TypeId) (w : World) (p : Sct × Value) : ∀ j u, (s2 p)[j]? = some u → (w.alloc (.cells #[.int .i64 p.1.1, p.2] e)).cell? ((⟨w.heap.size, 0, none⟩ : Addr).add j) = some u := by
  intro j u hu
  rw [s_plain]
  rcases j with _ | _ | j
  · simp [s2] at hu; subst hu; simp
  · simp [s2] at hu; subst hu; simp
  · simp [s2] at hu
theorem wp_oneS {ops : Array Oper} {rest : List Oper} {o : Oper} {a : Act} {Q : Exit → Act → World → Prop} (e t : TypeId) (ht : Tryz.prog.underlying t = some (.slice e)) (hi : (Tryz.prog.info? e).map (fun i => (i.zero, i.size, i.bytes)) = some (some (.agg #[.int .i64 0, .slice none 0 0]), 2, 32)) (w : World) (hgd : o.guard = none) (s x : Operand)
    (ho : o.op = .call { callee := .builtin .append, args := #[s, x], argTypes := #[t, t] }) (B : Nat) (v : Value) (done : List (Sct × Value)) (p : Sct × Value) (hp : ∃ P n c, p.2 = .slice P n c) (hs : a.eval s = v) (hown : OwnS e w B v done)
    (hx : a.eval x = .slice (some ⟨w.heap.size, 0, none⟩) 1 1) (hlen : done.length ≤ 1000000) (hB : B ≤ w.heap.size)
    (h : ∀ v' w', OwnS e w' B v' (done ++ [p]) → Below B w w' → (∀ k, k < w.heap.size → some k ≠ v.ownBlock → w'.heap[k]? = w.heap[k]?) → wpList Tryz.prog ops Q rest (a.put o.dst v') w') : wpList Tryz.prog ops Q (o :: rest) a (w.alloc (.cells #[.int .i64 p.1.1, p.2] e)) := by
  obtain ⟨i0, hi, hz0, hz1, hz2⟩ := info_parts hi
  refine wpList_append_own _ hgd s x t ho B e i0 (.agg #[.int .i64 0, .slice none 0 0]) 2 32 ht hi hz0 hz1 hz2 rfl (by decide) v _ _ hs (World.ownsRow.alloc hown _) ⟨w.heap.size, 0, none⟩ 1 1 (s2 p) hx rfl (newS e w p) ?_ (by simp only [maxLen]; omega) (by omega) (by simp; omega) ?_
  · obtain ⟨P, n, c, e⟩ := hp
    intro u hu
    simp only [s2, e, List.mem_cons, List.not_mem_nil, or_false] at hu
    rcases hu with rfl | rfl <;> rfl
  · intro v' w' ho' hg hn
    refine h v' w' ?_ (((Below.refl _ _).alloc hB _).grown hg (by simp; omega) (fun k hk => (World.ownsRow.lt hown k hk).1)) (fun k hk hne => (hg.block k (by simp; omega) hne).trans (((Below.refl w.heap.size w).alloc (Nat.le_refl _) _).block k hk))
    have ho2 : w'.ownsRow B e 2 v' (done ++ [p]).length ((done ++ [p]).flatMap s2) := by
      rw [List.flatMap_append, List.length_append]
      simpa using ho'
    exact ho2
end Go.Proofs.YtffegkjlgeblbaaGreatDoor.Sec
end

section
/- The document's first bytes, Find and Few, walked. -/
namespace Go.Proofs.YtffegkjlgeblbaaGreatDoor.Sec
open Go.RowKit Utf
set_option maxRecDepth 100000
set_option maxHeartbeats 2000000
set_option linter.unusedVariables false
def hd8 : List Int := [0, 97, 115, 109, 1, 0, 0, 0]
end Go.Proofs.YtffegkjlgeblbaaGreatDoor.Sec
end

section
/- Are sections the same, by the document: walked. -/
namespace Go.Proofs.YtffegkjlgeblbaaGreatDoor.Sec
open Go.RowKit Utf
set_option maxRecDepth 100000
set_option maxHeartbeats 2000000
set_option linter.unusedVariables false
def scL (l : List (Sct × Value)) : List Sct := l.map (·.1)
theorem scL_len (l : List (Sct × Value)) : (scL l).length = l.length := by simp [scL]
theorem scL_get {l : List (Sct × Value)} {j : Nat} {p : Sct × Value} (h : l[j]? = some p) : (scL l)[j]? = some p.1 := by
  unfold scL
  rw [List.getElem?_map, h]
  rfl
end Go.Proofs.YtffegkjlgeblbaaGreatDoor.Sec
end

section
/- Splitting, by the document: walked. -/
namespace Go.Proofs.YtffegkjlgeblbaaGreatDoor.Sec
open Go.RowKit Utf
set_option maxRecDepth 100000
set_option maxHeartbeats 4000000
set_option linter.unusedVariables false
noncomputable def spl (b : List Int) : Nat → Nat → Int → List Sct → List Sct × Int
  | 0, _, _, _ => ([], 4)
  | f + 1, k, last, out =>
    if b.length ≤ k then (out, 0)
    else if 11 < b.getD k 0 then ([], 3)
    else match Leb.rdl Leb.fitU 32 (b.drop (k + 1)) 0 0 with
      | .short => ([], 2)
      | .form => ([], 3)
      | .ok v m =>
        if b.length - (k + 1 + m / 7) < v then ([], 2)
        else if b.getD k 0 = 0 then
          (if (nm ((b.drop (k + 1 + m / 7)).take v) 0).2.2 ≠ 0 then ([], (nm ((b.drop (k + 1 + m / 7)).take v) 0).2.2)
           else spl b f (k + 1 + m / 7 + v) last (out ++ [(0, (b.drop (k + 1 + m / 7)).take v)]))
        else if b.getD k 0 ≤ last then ([], 3)
        else spl b f (k + 1 + m / 7 + v) (b.getD k 0) (out ++ [(b.getD k 0, (b.drop (k + 1 + m / 7)).take v)])
noncomputable def split7 (b : List Int) : List Sct × Int :=
  if 65536 < b.length then ([], 4) else if b.length < 8 then ([], 2) else if b.take 8 ≠ hd8 then ([], 3) else spl b 65537 8 0 []
def STold (R : List Sct × Int) (w : World) (e : Ending) (w' : World) : Prop := ∃ v l, e = .returned (.tuple #[v, .int .i64 R.2]) ∧ ScRow w' v l ∧ scL l = R.1 ∧ Below w.heap.size w w'
theorem txt_eq {a b : List Int} (ha : ∀ x ∈ a, 0 ≤ x ∧ x < 256) (hb : ∀ x ∈ b, 0 ≤ x ∧ x < 256) (h : (strOfNums a).toList = (strOfNums b).toList) : a = b := by
  refine str_inj ha hb ?_
  rw [ByteArray.toList_eq, ByteArray.toList_eq] at h
  exact ByteArray.ext (Array.toList_inj.mp h)
theorem hd8_byte : ∀ x ∈ hd8, 0 ≤ x ∧ x < 256 := by decide
theorem drewB (w : World) : Below w.heap.size w w.drew := ⟨rfl, rfl, rfl, Nat.le_refl _, fun _ _ => rfl⟩
theorem own_sl8 {w : World} {B : Nat} {v : Value} {l : List Int} (h : Leb.Own w B v l) : Sl w v l := by
  obtain ⟨⟨g, c, rfl⟩, h1, ⟨hv, _⟩ | ⟨g', cap, cur, hv, hB, hc, hle, hm, hsz, ht⟩⟩ := id h
  · cases hv
  · injection hv with e1 e2 e3
    subst e3
    refine ⟨_, c, rfl, hle, by unfold maxLen at hm; omega, fun h0 => ⟨g, 0, rfl, ⟨?_, rfl, fun j hj => ?_⟩⟩⟩
    · simp only [Option.some.injEq, Addr.mk.injEq, and_true] at e1
      rw [e1]
      exact (Array.getElem?_eq_some_iff.1 hc).1
    · have := World.ownsRow.cells h.2 (g := g) rfl j (.int .u8 (l.getD j 0)) (by unfold Leb.vb; rw [List.getElem?_map, List.getElem?_eq_getElem hj, List.getD_eq_getElem?_getD, List.getElem?_eq_getElem hj]; rfl)
      rw [s_plain] at this
      exact this
theorem sl_take {w : World} {g off n c k : Nat} {l : List Int} (h : Sl w (.slice (some ⟨g, off, none⟩) n c) l) (hk : k ≤ l.length) : Sl w (.slice (some ⟨g, off, none⟩) k c) (l.take k) := by
  obtain ⟨A, c', h1, h2, h3, h4⟩ := h
  injection h1 with e1 e2 e3
  subst e1 e3
  have hl : (l.take k).length = k := by rw [List.length_take]; omega
  refine ⟨_, c, by rw [hl], by omega, h3, fun h0 => ?_⟩
  obtain ⟨g', off', e, hB⟩ := h4 (fun e => h0 (by rw [e]; simp))
  simp only [Option.some.injEq, Addr.mk.injEq, and_true] at e
  obtain ⟨rfl, rfl⟩ := e
  refine ⟨g, off, rfl, hB.1, hB.2.1, fun j hj => ?_⟩
  rw [hl] at hj
  have := hB.2.2 j (by omega)
  rw [this, take_getD _ _ _ hj]
end Go.Proofs.YtffegkjlgeblbaaGreatDoor.Sec
end

section
/- Splitting, by the document, where the head is a module's: walked. -/
namespace Go.Proofs.YtffegkjlgeblbaaGreatDoor.Sec
open Go.RowKit Utf
set_option maxRecDepth 100000
set_option maxHeartbeats 8000000
set_option linter.unusedVariables false
theorem own_stay {w w' : World} {B e s n : Nat} {v : Value} {xs : List Value} (h : w.ownsRow B e s v n xs) (hk : ∀ k, v.ownBlock = some k → w'.heap[k]? = w.heap[k]?) : w'.ownsRow B e s v n xs := by
  obtain ⟨h1, h2⟩ := h
  refine ⟨h1, ?_⟩
  rcases h2 with h2 | ⟨g, cap, cur, hv, hB, hc, hr⟩
  · exact .inl h2
  · exact .inr ⟨g, cap, cur, hv, hB, by rw [hk g (by rw [hv]; rfl)]; exact hc, hr⟩
theorem own_type {w : World} {B e s n : Nat} {v : Value} {xs : List Value} (h : w.ownsRow B e s v n xs) {k : Nat} (hk : v.ownBlock = some k) : ∃ cur, w.heap[k]? = some (.cells cur e (0, 0)) := by
  obtain ⟨_, ⟨h2, _⟩ | ⟨g, cap, cur, hv, hB, hc, _⟩⟩ := h
  · rw [h2] at hk; cases hk
  · rw [hv] at hk
    obtain rfl : g = k := by simpa [Value.ownBlock] using hk
    exact ⟨cur, hc⟩
theorem own_beside {w w' : World} {B e s n B' e' s' n' : Nat} {v v' : Value} {xs xs' : List Value} (h : w.ownsRow B e s v n xs) (h' : w.ownsRow B' e' s' v' n' xs') (hne : e ≠ e') (hk : ∀ k, k < w.heap.size → some k ≠ v'.ownBlock → w'.heap[k]? = w.heap[k]?) : w'.ownsRow B e s v n xs :=
  own_stay h fun k hkk => hk k (World.ownsRow.lt h k hkk).2 fun e1 => by
    obtain ⟨cur, h1⟩ := own_type h hkk
    obtain ⟨cur', h2⟩ := own_type h' e1.symm
    rw [h1] at h2
    simp only [Option.some.injEq, Obj.cells.injEq] at h2
    exact hne h2.2.1
theorem own_low {w : World} {B B' e s n : Nat} {v : Value} {xs : List Value} (h : w.ownsRow B e s v n xs) (hB : B' ≤ B) : w.ownsRow B' e s v n xs := by
  obtain ⟨h1, h2⟩ := h
  refine ⟨h1, ?_⟩
  rcases h2 with h2 | ⟨g, cap, cur, hv, hB, hr⟩
  · exact .inl h2
  · exact .inr ⟨g, cap, cur, hv, by omega, hr⟩
def Dat (w : World) (B : Nat) (p : Sct × Value) : Prop := w.ownsRow B 5 1 p.2 p.1.2.length (Leb.vb p.1.2) ∧ ∀ x ∈ p.1.2, 0 ≤ x ∧ x < 256
theorem Dat.ok {w : World} {B : Nat} {p : Sct × Value} (h : Dat w B p) : ScOk w p := by
  refine ⟨?_, h.2⟩
  obtain ⟨h1, ⟨hv, hl⟩ | ⟨g, cap, cur, hv, hB, hc, hle, hm, hsz, ht⟩⟩ := id h.1
  · rw [hv]
    have : p.1.2 = [] := List.length_eq_zero_iff.1 hl
    rw [this]
    exact ⟨none, 0, rfl, Nat.le_refl _, by omega, fun h => absurd rfl h⟩
  · refine ⟨_, cap, hv, hle, by unfold maxLen at hm; omega, fun h0 => ⟨g, 0, rfl, (Array.getElem?_eq_some_iff.1 hc).1, rfl, fun j hj => ?_⟩⟩
    have := World.ownsRow.cells h.1 (g := g) (by rw [hv]; rfl) j (.int .u8 (p.1.2.getD j 0)) (by unfold Leb.vb; rw [List.getElem?_map, List.getElem?_eq_getElem hj, List.getD_eq_getElem?_getD, List.getElem?_eq_getElem hj]; rfl)
    rw [s_plain] at this
    exact this
structure SMid (e : TypeId) (w : World) (b : List Int) (n : Nat) (R : List Sct × Int) (wr : World) (f k : Nat) (last : Int) (vL : Value) (L : List (Sct × Value)) : Prop where
  r : spl b f k last (scL L) = R
  f : n < f + k
  kle : k ≤ n
  lo : 0 ≤ last
  hi : last ≤ 11
  row : OwnS e wr w.heap.size vL L
  dat : ∀ p ∈ L, Dat wr w.heap.size p
  len : L.length ≤ k
  below : Below w.heap.size w wr
theorem rdl_le {k : Nat} {b : List Int} {v m : Nat} (hk : k < b.length) (h : Leb.rdl Leb.fitU 32 (b.drop (k + 1)) 0 0 = .ok v m) : k + 1 + m / 7 ≤ b.length := by
  have := rdl_len _ _ _ _ _ h
  rw [List.length_drop] at this
  omega
theorem drop_byt {w : World} {g off c n p v : Nat} {b : List Int} (h : Sl w (.slice (some ⟨g, off, none⟩) n c) b) : Leb.Byt w w.heap.size (some ⟨g, off + p, none⟩) ((b.drop p).take v) := by
  intro h0
  obtain ⟨A, c', h1, h2, h3, h4⟩ := h
  injection h1 with e1 e2 e3
  subst e1 e3
  obtain ⟨g', off', e, hB⟩ := h4 (fun e => by rw [e] at h0; simp at h0)
  simp only [Option.some.injEq, Addr.mk.injEq, and_true] at e
  obtain ⟨rfl, rfl⟩ := e
  refine ⟨_, rfl, hB.1, fun j u hu => ?_⟩
  unfold Leb.vb at hu
  rw [List.getElem?_map, List.getElem?_take] at hu
  split at hu
  · rw [List.getElem?_drop] at hu
    cases hq : b[p + j]? with
    | none => rw [hq] at hu; cases hu
    | some y =>
      rw [hq] at hu
      have hpj := (List.getElem?_eq_some_iff.1 hq).1
      have := hB.2.2 (p + j) hpj
      rw [List.getD_eq_getElem?_getD, hq] at this
      rw [s_plain, show off + p + j = off + (p + j) from by omega, this]
      exact hu
  · cases hu
theorem spl_more {b : List Int} {k f : Nat} {last x : Int} {out : List Sct} (hk : k < b.length) (hx : b.getD k 0 = x) : spl b (f + 1) k last out = if 11 < x then ([], 3)
    else match Leb.rdl Leb.fitU 32 (b.drop (k + 1)) 0 0 with
      | .short => ([], 2)
      | .form => ([], 3)
      | .ok v m =>
        if b.length - (k + 1 + m / 7) < v then ([], 2)
        else if x = 0 then
          (if (nm ((b.drop (k + 1 + m / 7)).take v) 0).2.2 ≠ 0 then ([], (nm ((b.drop (k + 1 + m / 7)).take v) 0).2.2)
           else spl b f (k + 1 + m / 7 + v) last (out ++ [(0, (b.drop (k + 1 + m / 7)).take v)]))
        else if x ≤ last then ([], 3)
        else spl b f (k + 1 + m / 7 + v) x (out ++ [(x, (b.drop (k + 1 + m / 7)).take v)]) := by
  rw [spl, if_neg (by omega), hx] <;> rfl
theorem sl_byt {w : World} {g off c n : Nat} {b : List Int} (h : Sl w (.slice (some ⟨g, off, none⟩) n c) b) : Leb.Byt w w.heap.size (some ⟨g, off, none⟩) b := by
  have := drop_byt (p := 0) (v := b.length) h
  simpa using this
theorem sl_cell {w : World} {g off c n k : Nat} {b : List Int} (h : Sl w (.slice (some ⟨g, off, none⟩) n c) b) (hk : k < b.length) : w.cell? ⟨g, off + k, none⟩ = some (.int .u8 (b.getD k 0)) := by
  obtain ⟨A, c', h1, h2, h3, h4⟩ := h
  injection h1 with e1 e2 e3
  subst e1 e3
  obtain ⟨g', off', e, hB⟩ := h4 (fun e => by rw [e] at hk; simp at hk)
  simp only [Option.some.injEq, Addr.mk.injEq, and_true] at e
  obtain ⟨rfl, rfl⟩ := e
  exact hB.2.2 k hk
theorem scL_one (L : List (Sct × Value)) (q : Sct × Value) : scL (L ++ [q]) = scL L ++ [q.1] := by simp [scL]
theorem dat_beside {e : TypeId} (he : 5 ≠ e) {w w' : World} {B : Nat} {u4 : Value} {L : List (Sct × Value)} {q : Sct × Value} (h : Dat w B q) (hr : OwnS e w B u4 L) (hk : ∀ k, k < w.heap.size → some k ≠ u4.ownBlock → w'.heap[k]? = w.heap[k]?) : Dat w' B q :=
  ⟨own_beside h.1 hr he hk, h.2⟩
theorem SMid.nextD {e : TypeId} (he : 5 ≠ e) {w wr w2 w3 : World} {b : List Int} {n f k k' : Nat} {R : List Sct × Int} {last last' x : Int} {u4 v3 V : Value} {L : List (Sct × Value)} {D : List Int} (h : SMid e w b n R wr (f + 1) k last u4 L) (hr : OwnS e w2 w.heap.size u4 L)
    (ho : Dat w2 w.heap.size ((x, D), V)) (hb2 : Below wr.heap.size wr w2) (hbw : Below w.heap.size w w2) (ho3 : OwnS e w3 w.heap.size v3 (L ++ [((x, D), V)])) (hb3 : Below w.heap.size w2 w3) (hk : ∀ k, k < w2.heap.size → some k ≠ u4.ownBlock → w3.heap[k]? = w2.heap[k]?)
    (hs : spl b f k' last' (scL (L ++ [((x, D), V)])) = R) (hf : n < f + k') (hk' : k' ≤ n) (hlo : 0 ≤ last') (hhi : last' ≤ 11) (hkk : k + 1 ≤ k') : SMid e w b n R w3 f k' last' v3 (L ++ [((x, D), V)]) := by
  refine ⟨hs, hf, hk', hlo, hhi, ho3, fun q hq => ?_, ?_, hbw.trans hb3⟩
  · rcases List.mem_append.1 hq with hq | hq
    · exact dat_beside he (w := w2) ⟨own_keep (h.dat q hq).1 hb2, (h.dat q hq).2⟩ hr hk
    · obtain rfl := List.mem_singleton.1 hq
      exact dat_beside he (w := w2) ho hr hk
  · have := h.len
    rw [List.length_append]
    simp only [List.length_cons, List.length_nil]
    omega
theorem stop_ {P : Prop} (h : Hid P) : P := h.out
end Go.Proofs.YtffegkjlgeblbaaGreatDoor.Sec
end

section
/- A section of a name, by the document. -/
namespace Go.Proofs.YtffegkjlgeblbaaGreatDoor.Sec
open Go.RowKit Utf
set_option maxRecDepth 100000
set_option maxHeartbeats 4000000
set_option linter.unusedVariables false
theorem heap_new (w : World) (o : Obj) : (w.alloc o).heap[w.heap.size]? = some o := by
  simp only [World.alloc]
  exact Array.getElem?_push_size
theorem size_new1 (w : World) (o : Obj) : (w.alloc o).heap.size = w.heap.size + 1 := by simp
theorem cells_at {w : World} {g : Nat} {cur : Array Value} {e : TypeId} (h : w.heap[g]? = some (.cells cur e (0, 0))) (i : Nat) : w.cell? ⟨g, i, none⟩ = cur[i]? ∧ w.frozen? ⟨g, i, none⟩ = false := by
  refine ⟨?_, ?_⟩
  · simp only [World.cell?, h]; rfl
  · simp only [World.frozen?, h]; simp
theorem sl_bytA {w : World} {A : Option Addr} {n c : Nat} {D : List Int} (h : Sl w (.slice A n c) D) : Leb.Byt w w.heap.size A D := by
  intro h0
  obtain ⟨A', c', h1, h2, h3, h4⟩ := id h
  injection h1 with e1 e2 e3
  subst e1
  obtain ⟨g, off, e, _⟩ := h4 (fun e => by rw [e] at h0; simp at h0)
  subst e
  exact sl_byt h h0
end Go.Proofs.YtffegkjlgeblbaaGreatDoor.Sec
end

section
/- The program's small functions of sections, walked: a clone, a name's fault, what rises, the head. -/
namespace Go.Proofs.YtffegkjlgeblbaaGreatDoor.Sec
open Go.RowKit Utf
set_option maxRecDepth 100000
set_option maxHeartbeats 2000000
set_option linter.unusedVariables false
def Cloned (w : World) (D : List Int) (e : Ending) (w' : World) : Prop := (∃ g n c, e = .returned (.slice g n c) ∧ w'.ownsRow w.heap.size 5 1 (.slice g n c) D.length (Leb.vb D) ∧ n = D.length) ∧ Below w.heap.size w w'
theorem pclone_any {A : Option Addr} {n c : Nat} {D : List Int} {w : World} (hn : D.length = n) (hA : Leb.Byt w w.heap.size A D) (hl : n ≤ 1000000) : Calls Tryz.prog 112 #[.slice A n c] w (Cloned w D) := by
  rcases A with _ | ad
  · have hD : D = [] := by
      rcases D with _ | ⟨x, D⟩
      · rfl
      · obtain ⟨ad, h, _⟩ := hA (by simp)
        cases h
    subst hD
    clear hA hl hn
    have heq : ∀ W, (binOp .eql 22 (.slice none n c) (.slice none 0 0)).run Tryz.prog W = .ok (.bool true) W := fun W => run_eql_slice_nil W _ _ none n c Tryz.underlying22
    go_enter Tryz.func112, Tryz.ntmps112
    go_wp2_with fail
    exact bodyPost_ret (v := .slice none 0 0) (by simp [results, Tryz.results112, go_sem]) rfl ⟨⟨_, _, _, rfl, ⟨rfl, .inl ⟨rfl, rfl⟩⟩, rfl⟩, Below.refl _ _⟩
  · have HA := Lib.hid hA
    have HN := Lib.hid hn
    have HW := Lib.hid ((Below.refl w.heap.size w).alloc (Nat.le_refl _) (.cells #[] 5))
    have heq : ∀ W, (binOp .eql 22 (.slice (some ad) n c) (.slice none 0 0)).run Tryz.prog W = .ok (.bool false) W := fun W => run_eql_slice_nil W _ _ (some ad) n c Tryz.underlying22
    clear hA hn
    go_enter Tryz.func112, Tryz.ntmps112
    go_wp2_with (at_builtin; refine stop_ ?_)
    refine Lib.hid ?_
    refine Leb.wp_bytes _ rfl (.tmp 5) (.tmp 6) rfl w.heap.size w.heap.size _ [] D rfl (Leb.own_none w) (some ad) c ?_ (HA.out.keep HW.out) ?_ HW.out.size ?_
    focus (rw [HN.out]; rfl)
    focus (rw [HN.out]; simp; omega)
    intro v1 w1 ho1 hb1
    rw [List.nil_append] at ho1
    obtain ⟨⟨g1, c1, rfl⟩, ho2⟩ := ho1
    have HO := Lib.hid ho2
    have HB := Lib.hid (HW.out.trans hb1)
    clear ho2 hb1
    rw [HN.out] at HO ⊢
    go_wp2_with fail
    exact bodyPost_ret (v := .slice (some ⟨g1, 0, none⟩) n c1) (by simp [results, Tryz.results112, go_sem]) rfl ⟨⟨_, _, _, rfl, by rw [HN.out]; exact HO.out, HN.out.symm⟩, HB.out⟩
noncomputable def nf (p : Sct) : Int := if p.1 = 0 then (nm p.2 0).2.2 else 0
theorem pnf_any {x : Int} {A : Option Addr} {n c : Nat} {D : List Int} {w : World} (hn : D.length = n) (hs : Sl w (.slice A n c) D) (hb : ∀ y ∈ D, 0 ≤ y ∧ y < 256) (hl : n ≤ 1000000) :
    Calls Tryz.prog 113 #[.agg #[.int .i64 x, .slice A n c]] w fun e w' => e = .returned (.int .i64 (nf (x, D))) ∧ Below w.heap.size w w' := by
  have HW := Lib.hid ((Below.refl w.heap.size w).alloc (Nat.le_refl _) (.cells #[.int .i64 x, .slice A n c] 54))
  have HNM := Lib.hid (pname_any (.slice A n c) D 0 _ hb (hs.keep HW.out) (by omega))
  by_cases hx : x = 0
  · subst hx
    have HV : Hid (nf (0, D) = (nm D 0).2.2) := by show _ = _; unfold nf; rw [if_pos rfl]
    rw [HV.out]
    obtain ⟨⟨N0, N1, E⟩, hNM⟩ : ∃ y, nm D 0 = y := ⟨_, rfl⟩
    rw [hNM] at HNM ⊢
    clear hNM hs hb hl hn HV
    go_enter Tryz.func113, Tryz.ntmps113
    go_wp2_with fail
    refine HNM.out.mono ?_
    rintro en w1 ⟨rfl, hb1⟩
    have HB1 := Lib.hid (HW.out.trans (hb1.mono HW.out.size))
    clear hb1
    go_wp2_with fail
    exact bodyPost_ret (v := .int .i64 E) (by simp [results, Tryz.results113, go_sem]) rfl ⟨rfl, HB1.out⟩
  · have HV : Hid (nf (x, D) = 0) := by show _ = _; unfold nf; rw [if_neg hx]
    rw [HV.out]
    have hx1 : (x != 0) = true := by simpa using hx
    clear hs hb hl hn HV HNM
    go_enter Tryz.func113, Tryz.ntmps113
    go_wp2_with fail
    exact bodyPost_ret (v := .int .i64 0) (by simp [results, Tryz.results113, go_sem]) rfl ⟨rfl, HW.out⟩
def ris (x top : Int) : Bool := (x == 0) || decide (top < x)
theorem prises_any (x top : Int) (w : World) : Calls Tryz.prog 65 #[.int .i64 x, .int .i64 top] w fun e w' => e = .returned (.bool (ris x top)) ∧ w' = w := by
  unfold ris
  cases hx : (x == 0) <;> cases ht : decide (top < x)
  all_goals (
    go_enter Tryz.func65, Tryz.ntmps65
    go_wp2_with fail
    first
    | exact bodyPost_ret (v := .bool true) (by simp [results, Tryz.results65, go_sem]) rfl ⟨rfl, rfl⟩
    | exact bodyPost_ret (v := .bool false) (by simp [results, Tryz.results65, go_sem]) rfl ⟨rfl, rfl⟩)
def hf (b : List Int) : Int := if 65536 < b.length then 4 else if b.length < 8 then 2 else if b.take 8 ≠ hd8 then 3 else 0
theorem hd8_str : strOfNums hd8 = { data := #[0, 97, 115, 109, 1, 0, 0, 0] } := by decide
theorem hd8_list : ({ data := #[0, 97, 115, 109, 1, 0, 0, 0] } : ByteArray).toList = ([0, 97, 115, 109, 1, 0, 0, 0] : List UInt8) := by first | rfl | simp | decide
theorem phead_any {A : Option Addr} {n c : Nat} {b : List Int} {w : World} (hn : b.length = n) (hs : Sl w (.slice A n c) b) (hb : ∀ x ∈ b, 0 ≤ x ∧ x < 256) : Calls Tryz.prog 63 #[.slice A n c] w fun e w' => e = .returned (.int .i64 (hf b)) ∧ Below w.heap.size w w' := by
  by_cases h1 : 65536 < n
  · have HV : Hid (hf b = 4) := by show _ = _; unfold hf; rw [hn, if_pos h1]
    rw [HV.out]
    have t1 : decide ((65536 : Int) < (n : Int)) = true := decide_eq_true (by omega)
    have t1' : decide (65536 < n) = true := decide_eq_true h1
    clear hs hb hn h1 HV
    go_enter Tryz.func63, Tryz.ntmps63
    go_wp2_with fail
    exact bodyPost_ret (v := .int .i64 4) (by simp [results, Tryz.results63, go_sem]) rfl ⟨rfl, Below.refl _ _⟩
  · have t1 : decide ((65536 : Int) < (n : Int)) = false := decide_eq_false (by omega)
    have t1' : decide (65536 < n) = false := decide_eq_false h1
    by_cases h2 : n < 8
    · have HV : Hid (hf b = 2) := by show _ = _; unfold hf; rw [hn, if_neg h1, if_pos h2]
      rw [HV.out]
      have t2 : decide ((n : Int) < 8) = true := decide_eq_true (by omega)
      have t2' : decide (n < 8) = true := decide_eq_true h2
      clear hs hb hn h1 h2 HV
      go_enter Tryz.func63, Tryz.ntmps63
      go_wp2_with fail
      exact bodyPost_ret (v := .int .i64 2) (by simp [results, Tryz.results63, go_sem]) rfl ⟨rfl, Below.refl _ _⟩
    · have t2 : decide ((n : Int) < 8) = false := decide_eq_false (by omega)
      have t2' : decide (n < 8) = false := decide_eq_false h2
      obtain ⟨A', c', e1, hc, hm, h4⟩ := id hs
      obtain ⟨g, off, rfl, _⟩ := h4 (fun e => by rw [e] at hn; simp at hn; omega)
      injection e1 with e1 hnb e3
      subst e1 e3
      clear hnb
      have hst := sl_take hs (k := 8) (by omega)
      have e1 : ∀ W, Below w.heap.size w W → (convert 22 9 (.slice (some ⟨g, off, none⟩) 8 c)).run Tryz.prog W = .ok (.string (strOfNums (b.take 8))) W := fun W hW => sl_txt (hst.keep hW)
      have e2 := e1 w (Below.refl _ _)
      have i1 : (8 : Int) ≤ (c : Int) := by omega
      have i1' : 8 ≤ c := by omega
      by_cases hh : b.take 8 = hd8
      · have HV : Hid (hf b = 0) := by show _ = _; unfold hf; rw [hn, if_neg h1, if_neg h2, if_neg (by simp [hh])]
        rw [HV.out]
        rw [hh, hd8_str] at e2
        clear hs hb hn h1 h2 HV hst e1 h4 hh
        go_enter Tryz.func63, Tryz.ntmps63
        go_wp2_with fail
        exact bodyPost_ret (v := .int .i64 0) (by simp [results, Tryz.results63, go_sem]) rfl ⟨rfl, Below.refl _ _⟩
      · have HV : Hid (hf b = 3) := by show _ = _; unfold hf; rw [hn, if_neg h1, if_neg h2, if_pos hh]
        rw [HV.out]
        have hne : ((strOfNums (b.take 8)).toList == (strOfNums hd8).toList) = false := by
          rw [Bool.eq_false_iff]
          intro e
          exact hh (txt_eq (fun x hx => hb x (List.mem_of_mem_take hx)) hd8_byte (by simpa using e))
        rw [hd8_str, hd8_list] at hne
        generalize strOfNums (b.take 8) = S1 at e2 hne
        clear hs hb hn h1 h2 HV hst e1 h4 hh
        go_enter Tryz.func63, Tryz.ntmps63
        go_wp2_with fail
        exact bodyPost_ret (v := .int .i64 3) (by simp [results, Tryz.results63, go_sem]) rfl ⟨rfl, Below.refl _ _⟩
end Go.Proofs.YtffegkjlgeblbaaGreatDoor.Sec
end

section
/- What sections are laid as, and what is split of it: plain. -/
namespace Go.Proofs.YtffegkjlgeblbaaGreatDoor.Sec
open Go.RowKit Utf
set_option maxRecDepth 100000
set_option linter.unusedVariables false
noncomputable def may1 (last : Int) (p : Sct) : Bool := decide (0 ≤ p.1) && (decide (p.1 ≤ 11) && (bif p.1 == 0 then (nm p.2 0).2.2 == 0 else decide (last < p.1)))
noncomputable def mayb : Int → List Sct → Bool
  | _, [] => true
  | last, p :: l => may1 last p && mayb (max last p.1) l
def secB (p : Sct) : List Int := p.1 :: (Leb.uB p.2.length ++ p.2)
def secsB (l : List Sct) : List Int := l.flatMap secB
noncomputable def join7 (l : List Sct) : List Int × Int := if mayb 0 l = false then ([], 1) else if 65536 < 8 + (secsB l).length then ([], 4) else (hd8 ++ secsB l, 0)
theorem secsB_cons (p : Sct) (l : List Sct) : secsB (p :: l) = p.1 :: (Leb.uB p.2.length ++ (p.2 ++ secsB l)) := by simp [secsB, secB]
theorem secsB_len (p : Sct) (l : List Sct) : (secsB (p :: l)).length = 1 + Leb.lenU p.2.length + p.2.length + (secsB l).length := by
  rw [secsB_cons, List.length_cons, List.length_append, List.length_append, Leb.uB_len]
  omega
theorem may1_zero {last : Int} {p : Sct} (h : may1 last p = true) (h0 : p.1 = 0) : (nm p.2 0).2.2 = 0 := by
  unfold may1 at h
  simp only [Bool.and_eq_true] at h
  have := h.2.2
  rw [h0] at this
  simpa using this
theorem may1_in {last : Int} {p : Sct} (h : may1 last p = true) : 0 ≤ p.1 ∧ p.1 ≤ 11 := by
  unfold may1 at h
  simp only [Bool.and_eq_true, decide_eq_true_eq] at h
  exact ⟨h.1, h.2.1⟩
theorem may1_lt {last : Int} {p : Sct} (h : may1 last p = true) (h0 : p.1 ≠ 0) : last < p.1 := by
  unfold may1 at h
  simp only [Bool.and_eq_true] at h
  have := h.2.2
  rw [show (p.1 == 0) = false from by simpa using h0] at this
  simpa using this
theorem may1_mk {last x : Int} {D : List Int} (h1 : 0 < x) (h2 : x ≤ 11) (h3 : last < x) : may1 last (x, D) = true := by
  unfold may1
  rw [show (x == 0) = false from by simp; omega]
  simp
  omega
theorem may_cons {last : Int} {p : Sct} {l : List Sct} (h : mayb last (p :: l) = true) : may1 last p = true ∧ mayb (max last p.1) l = true := by
  rw [mayb, Bool.and_eq_true] at h
  exact h
theorem at_secs {b : List Int} {k : Nat} {x : Int} {U T : List Int} (h : b.drop k = x :: (U ++ T)) : k < b.length ∧ b.getD k 0 = x ∧ b.drop (k + 1) = U ++ T ∧ b.drop (k + 1 + U.length) = T ∧ b.length = k + 1 + U.length + T.length := by
  have hk : k < b.length := by
    by_cases hk : k < b.length
    · exact hk
    · rw [List.drop_eq_nil_of_le (by omega)] at h; cases h
  have h1 : b.drop (k + 1) = U ++ T := by
    rw [← List.drop_drop, h]
    rfl
  have h2 : b.drop (k + 1 + U.length) = T := by rw [← List.drop_drop, h1, List.drop_left]
  refine ⟨hk, ?_, h1, h2, ?_⟩
  · rw [List.drop_eq_getElem_cons hk] at h
    rw [List.getD_eq_getElem?_getD, List.getElem?_eq_getElem hk]
    exact (List.cons.inj h).1
  · have e1 := congrArg List.length h
    rw [List.length_drop, List.length_cons, List.length_append] at e1
    omega
theorem spl_secs : ∀ (l : List Sct) (b : List Int) (f k : Nat) (last : Int) (out : List Sct), b.length ≤ 65536 → b.drop k = secsB l → mayb last l = true → 0 ≤ last → l.length < f → spl b f k last out = (out ++ l, 0)
  | [], b, f + 1, k, last, out, hb, hd, _, _, _ => by
    have : b.length ≤ k := by
      have e := congrArg List.length hd
      rw [List.length_drop] at e
      simp [secsB] at e
      omega
    rw [spl, if_pos this, List.append_nil]
  | p :: l, b, f + 1, k, last, out, hb, hd, hm, h0, hf => by
    obtain ⟨m1, m2⟩ := may_cons hm
    obtain ⟨i1, i2⟩ := may1_in m1
    rw [secsB_cons] at hd
    obtain ⟨hk, hx, d1, d2, hl⟩ := at_secs hd
    rw [spl_more hk hx, if_neg (by omega), d1]
    have hs : p.2.length < 4294967296 := by rw [List.length_append] at hl; omega
    rw [Typ.back32 hs]
    show (if b.length - (k + 1 + 7 * Leb.lenU p.2.length / 7) < p.2.length then _ else _) = _
    rw [show 7 * Leb.lenU p.2.length / 7 = (Leb.uB p.2.length).length from by rw [Leb.uB_len]; omega, d2, if_neg (by rw [hl, List.length_append]; omega), List.take_left]
    rw [List.length_cons] at hf
    have hd' : b.drop (k + 1 + (Leb.uB p.2.length).length + p.2.length) = secsB l := by rw [← List.drop_drop, d2, List.drop_left]
    by_cases e0 : p.1 = 0
    · rw [if_pos e0, if_neg (by rw [may1_zero m1 e0]; decide), spl_secs l b f _ last _ hb hd' (by rw [e0, show max last 0 = last from by omega] at m2; exact m2) h0 (by omega), List.append_assoc]
      rw [show (0, p.2) = p from by rw [← e0]]
      rfl
    · have := may1_lt m1 e0
      rw [if_neg e0, if_neg (by omega), spl_secs l b f _ p.1 _ hb hd' (by rw [show max last p.1 = p.1 from by omega] at m2; exact m2) (by omega) (by omega), List.append_assoc]
      rfl
theorem take8 (x : List Int) : (hd8 ++ x).take 8 = hd8 := rfl
theorem drop8 (x : List Int) : (hd8 ++ x).drop 8 = x := rfl
theorem secs_long : ∀ (l : List Sct), 2 * l.length ≤ (secsB l).length
  | [] => Nat.le_refl _
  | p :: l => by
    have := secs_long l
    have := Leb.lenU_pos p.2.length
    rw [secsB_len, List.length_cons]
    omega
theorem split_join {l : List Sct} (hm : mayb 0 l = true) (hl : 8 + (secsB l).length ≤ 65536) : split7 (hd8 ++ secsB l) = (l, 0) := by
  have h8 : hd8.length = 8 := rfl
  have hlong := secs_long l
  unfold split7
  rw [if_neg (by rw [List.length_append]; omega), if_neg (by rw [List.length_append]; omega), if_neg (by rw [take8]; simp),
    spl_secs l _ _ 8 0 [] (by rw [List.length_append]; omega) (drop8 _) hm (by omega) (by omega)]
  rfl
theorem secs_app (a b : List Sct) : secsB (a ++ b) = secsB a ++ secsB b := by simp [secsB]
end Go.Proofs.YtffegkjlgeblbaaGreatDoor.Sec
end
