/- The document's Runes and Valid of any bytes: nil, or a row somewhere. -/
import Derived.Test.YtkdnhhhgggmapaaUtfInts
namespace Go.Proofs.Ytkdnhhhgggmapaa.Utf
open Go.RowKit
set_option maxRecDepth 100000
set_option maxHeartbeats 400000

/-- Bytes: none at all (wherever), or a row of them somewhere. -/
def Sl (w : World) (v : Value) (l : List Int) : Prop :=
  ∃ A c, v = .slice A l.length c ∧ l.length ≤ c ∧ c ≤ 9223372036854775807 ∧ (l ≠ [] → ∃ g off, A = some ⟨g, off, none⟩ ∧ Byt w w.heap.size ⟨g, off, none⟩ l)
theorem Sl.keep {w w' : World} {v : Value} {l : List Int} (h : Sl w v l) (hb : Below w.heap.size w w') : Sl w' v l := by
  obtain ⟨A, c, h1, h2, h3, h4⟩ := h
  refine ⟨A, c, h1, h2, h3, fun h0 => ?_⟩
  obtain ⟨g, off, e, hB⟩ := h4 h0
  exact ⟨g, off, e, (hB.keep hb).mono hb.size⟩
theorem Sl.nil (w : World) : Sl w (.slice none 0 0) [] := ⟨none, 0, rfl, Nat.le_refl _, by omega, fun h => absurd rfl h⟩
theorem runes_none (A : Option Addr) (c : Nat) (w : World) : Calls Try.prog 45 #[.slice A 0 c] w (RunEnds [] w) := by
  go_enter Try.func45, Try.ntmps45
  go_wp2_with fail
  refine wp_loop_rounds 1 ?_
  rw [rounds_succ]
  go_wp2_with fail
  go_ret2
  exact ⟨.inl ⟨_, [], Txt.nil, rfl, ownI_nil _ _⟩, Below.refl _ _⟩
theorem runes_any (v : Value) (l : List Int) (w : World) (hb : ∀ x ∈ l, 0 ≤ x ∧ x < 256) (hv : Sl w v l) (hl : l.length ≤ 1000000) : Calls Try.prog 45 #[v] w (RunEnds l w) := by
  obtain ⟨A, c, rfl, h2, h3, h4⟩ := hv
  by_cases h0 : l = []
  · subst h0
    exact runes_none A c w
  · obtain ⟨g, off, rfl, hB⟩ := h4 h0
    exact runes_some g off c l w hb hB h2 h3 hl
/-- Are bytes a text? -/
def isTxt (l : List Int) : Prop := ∃ x, Txt l x
open Classical in
noncomputable def isT (l : List Int) : Bool := decide (isTxt l)
open Classical in
theorem isT_true {l x : List Int} (h : Txt l x) : isT l = true := by unfold isT; exact decide_eq_true ⟨x, h⟩
open Classical in
theorem isT_false {l : List Int} (h : ∀ x, ¬ Txt l x) : isT l = false := by unfold isT; exact decide_eq_false (fun ⟨x, hx⟩ => h x hx)
theorem valid_any (v : Value) (l : List Int) (w : World) (hb : ∀ x ∈ l, 0 ≤ x ∧ x < 256) (hv : Sl w v l) (hl : l.length ≤ 1000000) : Calls Try.prog 38 #[v] w fun e w' => e = .returned (.bool (isT l)) ∧ Below w.heap.size w w' := by
  have HR := Lib.hid (runes_any v l w hb hv hl)
  clear hb hv hl
  go_enter Try.func38, Try.ntmps38
  go_wp2_with fail
  refine HR.out.mono ?_
  rintro e w1 ⟨(⟨o, x, ht, rfl, ho⟩ | ⟨hn, rfl⟩), hb⟩
  · have H := Lib.hid (isT_true ht)
    have HB := Lib.hid hb
    clear ht hb ho
    go_wp2_with fail
    go_ret
    exact ⟨ret_bool H.out.symm, HB.out⟩
  · have H := Lib.hid (isT_false hn)
    have HB := Lib.hid hb
    clear hn hb
    go_wp2_with fail
    go_ret
    exact ⟨ret_bool H.out.symm, HB.out⟩
end Go.Proofs.Ytkdnhhhgggmapaa.Utf
