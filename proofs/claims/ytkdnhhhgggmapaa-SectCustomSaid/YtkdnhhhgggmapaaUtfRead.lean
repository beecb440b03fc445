/- The program's Valid, Runes and FromRunes, walked. -/
import Derived.Test.YtkdnhhhgggmapaaUtfText
namespace Go.Proofs.Ytkdnhhhgggmapaa.Utf
open Go.RowKit
set_option maxRecDepth 100000
set_option maxHeartbeats 1000000

theorem none_txt (A : Option Addr) (c : Nat) (w : World) : (convert 22 9 (.slice A 0 c)).run Try.prog w = .ok (.string (strOfNums [])) w := by
  cases A with
  | none => rfl
  | some a => rfl
theorem sl_txt {w : World} {v : Value} {l : List Int} (h : Sl w v l) : (convert 22 9 v).run Try.prog w = .ok (.string (strOfNums l)) w := by
  obtain ⟨A, c, rfl, _, _, h4⟩ := h
  by_cases h0 : l = []
  · subst h0
    exact none_txt A c w
  · obtain ⟨g, off, rfl, hB⟩ := h4 h0
    exact run_txt w g off l.length c l rfl hB.2.2
/-- 'append(s, y)' on whole numbers of the call's own: every block but its own stays. -/
theorem wp_intK {ops : Array Oper} {rest : List Oper} {o : Oper} {a : Act} {Q : Exit → Act → World → Prop} (w : World) (hgd : o.guard = none) (s x : Operand)
    (ho : o.op = .call { callee := .builtin .append, args := #[s, x], argTypes := #[68, 68] }) (B : Nat) (v : Value) (done : List Int) (y : Int) (hs : a.eval s = v) (hown : OwnI w B v done)
    (hx : a.eval x = .slice (some ⟨w.heap.size, 0, none⟩) 1 1) (hlen : done.length ≤ 10000000) (hB : B ≤ w.heap.size)
    (h : ∀ v' w', OwnI w' B v' (done ++ [y]) → Below B w w' → (∀ k, k < w.heap.size → some k ≠ v.ownBlock → w'.heap[k]? = w.heap[k]?) → wpList Try.prog ops Q rest (a.put o.dst v') w') : wpList Try.prog ops Q (o :: rest) a (w.alloc (.cells #[.int .i64 y] 3)) := by
  obtain ⟨i0, hi, hz0, hz1, hz2⟩ := info_parts int_info
  refine wpList_append_own _ hgd s x 68 ho B 3 i0 (.int .i64 0) 1 8 Try.underlying68 hi hz0 hz1 hz2 rfl (by decide) v _ _ hs (World.ownsRow.alloc hown _) ⟨w.heap.size, 0, none⟩ 1 1 [.int .i64 y] hx rfl (one_newI w _) (by intro u hu; simp at hu; subst hu; rfl) (by simp only [maxLen]; omega) (by omega) (by simp; omega) ?_
  intro v' w' ho' hg hn
  refine h v' w' ?_ (((Below.refl _ _).alloc hB _).grown hg (by simp; omega) hown.block) (fun k hk hne => ?_)
  · have ho2 : w'.ownsRow B 3 1 v' (done ++ [y]).length (vi (done ++ [y])) := by simpa [vi] using ho'
    exact ho2
  · rw [hg.block k (by simp; omega) hne]
    exact (World.grownBy_alloc w _ none).block k hk (by simp)
theorem OwnI.iterAt {w : World} {B : Nat} {v : Value} {l : List Int} {k : Nat} {s : ByteArray} {pos : Nat} (h : OwnI w B v l) (hk : w.heap[k]? = some (.stringIter s pos)) (pos' : Nat) : OwnI (w.iterAt k s pos') B v l := by
  refine ⟨h.1, ?_⟩
  rcases h.2 with h0 | ⟨g, cap, cur, hv, hb, hg, rest⟩
  · exact .inl h0
  · refine .inr ⟨g, cap, cur, hv, hb, ?_, rest⟩
    rw [Lib.iterAt_other _ _ _ _ _ (fun e => by subst e; rw [hk] at hg; cases hg)]
    exact hg
theorem OwnI.ne_iter {w : World} {B : Nat} {v : Value} {l : List Int} {k : Nat} {s : ByteArray} {pos : Nat} (h : OwnI w B v l) (hk : w.heap[k]? = some (.stringIter s pos)) : some k ≠ v.ownBlock := by
  rcases h.2 with ⟨rfl, _⟩ | ⟨g, cap, cur, rfl, hb, hg, rest⟩
  · simp [Value.ownBlock]
  · intro e
    simp only [Value.ownBlock, Option.some.injEq] at e
    subst e
    rw [hk] at hg
    cases hg
/-- How far the program has told a text's numbers. -/
def Told (w : World) (K : Nat) (l : List Int) (k : Nat) (done : List Int) (o : Value) (wr : World) : Prop :=
  k ≤ l.length ∧ l.take k = done.flatMap enc ∧ (∀ v ∈ done, okR v) ∧ done.length ≤ k ∧ OwnI wr w.heap.size o done ∧ wr.heap[K]? = some (.stringIter (strOfNums l) k) ∧ Below w.heap.size w wr
theorem txt_next {b x : List Int} (h : Txt b x) {k : Nat} {done : List Int} (hd : ∀ v ∈ done, okR v) (ht : b.take k = done.flatMap enc) (hk : k < b.length) : ∃ v t, okR v ∧ b.drop k = enc v ++ t ∧ b.take (k + (enc v).length) = (done ++ [v]).flatMap enc ∧ k + (enc v).length ≤ b.length := by
  obtain ⟨y, hy, _⟩ := Txt.rest (x := done) (a := b.take k) (b := b.drop k) ⟨hd, ht⟩ (by rw [List.take_append_drop]; exact h)
  cases y with
  | nil =>
    have := hy.2
    simp at this
    omega
  | cons v y =>
    obtain ⟨hv, t, ht2, _⟩ := hy.tail
    have hl := congrArg List.length ht2
    rw [List.length_append, List.length_drop] at hl
    have := (enc_len v).1
    refine ⟨v, t, hv, ht2, ?_, by omega⟩
    rw [List.flatMap_append, ← ht, List.take_add, ht2, List.take_left]
    simp
end Go.Proofs.Ytkdnhhhgggmapaa.Utf
