/- Rows of sections: cut in two, and appended to one another. -/
import Derived.Test.YtkdnhhhgggmapaaSectIsWalk
import Derived.Deep.RegionLaw
import Derived.BigRegion
namespace Go.Proofs.Ytkdnhhhgggmapaa.Sec
open Go.RowKit Utf
set_option maxRecDepth 100000
set_option maxHeartbeats 1000000
set_option linter.unusedVariables false
theorem row_head {w : World} {A : Option Addr} {n c k : Nat} {l : List (Sct × Value)} (h : ScRow w (.slice A n c) l) (hn : l.length = n) (hk : k ≤ n) : ScRow w (.slice A k c) (l.take k) := by
  obtain ⟨⟨A', c', e, h2, h3, h4⟩, h5⟩ := h
  injection e with e1 e2 e3
  subst e1 e3
  refine ⟨⟨_, _, by rw [List.length_take, Nat.min_eq_left (by omega)], by rw [List.length_take]; omega, h3, fun h0 => ?_⟩, fun p hp => h5 p (List.mem_of_mem_take hp)⟩
  obtain ⟨g, off, e', hg, hB⟩ := h4 (fun e => by rw [e] at h0; simp at h0)
  refine ⟨g, off, e', hg, fun j p hj => hB j p ?_⟩
  rw [List.getElem?_take] at hj
  split at hj
  · exact hj
  · cases hj
theorem row_tail {w : World} {g off n c k : Nat} {l : List (Sct × Value)} (h : ScRow w (.slice (some ⟨g, off, none⟩) n c) l) (hn : l.length = n) (hk : k ≤ n) : ScRow w (.slice (some ⟨g, if c = k then off else off + k * 2, none⟩) (n - k) (c - k)) (l.drop k) := by
  obtain ⟨⟨A', c', e, h2, h3, h4⟩, h5⟩ := h
  injection e with e1 e2 e3
  subst e1 e3
  refine ⟨⟨_, _, by rw [List.length_drop, hn], by rw [List.length_drop]; omega, by omega, fun h0 => ?_⟩, fun p hp => h5 p (List.mem_of_mem_drop hp)⟩
  obtain ⟨g', off', e', hg, hB⟩ := h4 (fun e => by rw [e] at h0; simp at h0)
  simp only [Option.some.injEq, Addr.mk.injEq, and_true] at e'
  obtain ⟨rfl, rfl⟩ := e'
  have hlen : 0 < (l.drop k).length := List.length_pos_iff.2 h0
  rw [List.length_drop] at hlen
  have hck : ¬ c = k := by omega
  refine ⟨g, off + k * 2, by rw [if_neg hck], hg, fun j p hj => ?_⟩
  rw [List.getElem?_drop] at hj
  rw [show off + k * 2 + j * 2 = off + (k + j) * 2 from by omega]
  exact hB (k + j) p hj
theorem row_none {w : World} {n c : Nat} {l : List (Sct × Value)} (h : ScRow w (.slice none n c) l) : l = [] ∧ n = 0 := by
  obtain ⟨⟨A', c', e, h2, h3, h4⟩, _⟩ := h
  injection e with e1 e2 e3
  subst e1
  have : l = [] := by
    rcases l with _ | ⟨x, l⟩
    · rfl
    · obtain ⟨g, off, e, _⟩ := h4 (by simp)
      cases e
  subst this
  exact ⟨rfl, e2⟩
theorem row_plain {w : World} {a : Addr} {n c : Nat} {l : List (Sct × Value)} (h : ScRow w (.slice (some a) n c) l) (h0 : 0 < n) (hn : l.length = n) : ∃ g off, a = ⟨g, off, none⟩ := by
  obtain ⟨⟨A', c', e, h2, h3, h4⟩, _⟩ := h
  obtain ⟨g, off, e', _⟩ := h4 (fun e => by rw [e] at hn; simp at hn; omega)
  injection e with e1 _ _
  rw [e'] at e1
  exact ⟨g, off, Option.some.inj e1⟩
theorem rcut {w : World} {A : Option Addr} {n c k : Nat} {l : List (Sct × Value)} (h : ScRow w (.slice A n c) l) (hn : l.length = n) (hk : k ≤ n) : ∃ A1 c1 A2 c2,
    (∀ W, (Instr.sliceAt 23 (.slice A n c) none (some (.int .i64 (k : Int))) none).run Try.prog W = .ok (.slice A1 k c1) W) ∧ ScRow w (.slice A1 k c1) (l.take k) ∧
    (∀ W, (Instr.sliceAt 23 (.slice A n c) (some (.int .i64 (k : Int))) none none).run Try.prog W = .ok (.slice A2 (n - k) c2) W) ∧ ScRow w (.slice A2 (n - k) c2) (l.drop k) := by
  have hcn : n ≤ c := by
    obtain ⟨⟨A', c', e, h2, h3, h4⟩, _⟩ := id h
    injection e with e1 e2 e3
    omega
  have hc9 : c ≤ 9223372036854775807 := by
    obtain ⟨⟨A', c', e, h2, h3, h4⟩, _⟩ := id h
    injection e with e1 e2 e3
    omega
  have e1 : (k : Int) ≤ (c : Int) := by omega
  have e2 : (k : Int) ≤ (n : Int) := by omega
  have e3 : (0 : Int) ≤ (k : Int) := by omega
  have e4 : (n : Int) ≤ (c : Int) := by omega
  rcases A with _ | ⟨g, off, sp⟩
  · obtain ⟨rfl, rfl⟩ := row_none h
    obtain rfl : k = 0 := by omega
    refine ⟨none, c, none, c, fun W => ?_, ?_, fun W => ?_, ?_⟩
    · show (Instr.sliceAt 23 (.slice none 0 c) none (some (.int .i64 0)) none).run Try.prog W = _
      go_simp
    · exact h
    · show (Instr.sliceAt 23 (.slice none 0 c) (some (.int .i64 0)) none none).run Try.prog W = _
      go_simp
    · exact h
  · rcases Nat.eq_zero_or_pos n with h0 | h0
    · subst h0
      obtain rfl : k = 0 := by omega
      refine ⟨some ⟨g, off, sp⟩, c, some ⟨g, off, sp⟩, c, fun W => ?_, ?_, fun W => ?_, ?_⟩
      · show (Instr.sliceAt 23 (.slice (some ⟨g, off, sp⟩) 0 c) none (some (.int .i64 0)) none).run Try.prog W = _
        go_simp
      · rw [List.length_eq_zero_iff.1 hn] at h ⊢
        exact h
      · show (Instr.sliceAt 23 (.slice (some ⟨g, off, sp⟩) 0 c) (some (.int .i64 0)) none none).run Try.prog W = _
        cases sp <;> go_simp
      · rw [List.length_eq_zero_iff.1 hn] at h ⊢
        exact h
    · obtain ⟨g', off', e5⟩ := row_plain h h0 hn
      injection e5 with e5 e6 e7
      subst e7
      refine ⟨some ⟨g, off, none⟩, c, _, _, fun W => ?_, row_head h hn hk, fun W => ?_, row_tail h hn hk⟩
      · go_simp
      · by_cases hck : c = k
        · rw [if_pos hck]
          go_simp
        · rw [if_neg hck]
          go_simp
theorem pcut {w : World} {A : Option Addr} {n c k : Nat} {l : List (Sct × Value)} (h : ScRow w (.slice A n c) l) (hn : l.length = n) (hk : k ≤ n) : ∃ A1 c1 A2 c2,
    (∀ W, (Instr.sliceAt 26 (.slice A n c) none (some (.int .i64 (k : Int))) none).run Try.prog W = .ok (.slice A1 k c1) W) ∧ ScRow w (.slice A1 k c1) (l.take k) ∧
    (∀ W, (Instr.sliceAt 26 (.slice A n c) (some (.int .i64 (k : Int))) none none).run Try.prog W = .ok (.slice A2 (n - k) c2) W) ∧ ScRow w (.slice A2 (n - k) c2) (l.drop k) := by
  have hcn : n ≤ c := by
    obtain ⟨⟨A', c', e, h2, h3, h4⟩, _⟩ := id h
    injection e with e1 e2 e3
    omega
  have hc9 : c ≤ 9223372036854775807 := by
    obtain ⟨⟨A', c', e, h2, h3, h4⟩, _⟩ := id h
    injection e with e1 e2 e3
    omega
  have e1 : (k : Int) ≤ (c : Int) := by omega
  have e2 : (k : Int) ≤ (n : Int) := by omega
  have e3 : (0 : Int) ≤ (k : Int) := by omega
  have e4 : (n : Int) ≤ (c : Int) := by omega
  rcases A with _ | ⟨g, off, sp⟩
  · obtain ⟨rfl, rfl⟩ := row_none h
    obtain rfl : k = 0 := by omega
    refine ⟨none, c, none, c, fun W => ?_, ?_, fun W => ?_, ?_⟩
    · show (Instr.sliceAt 26 (.slice none 0 c) none (some (.int .i64 0)) none).run Try.prog W = _
      go_simp
    · exact h
    · show (Instr.sliceAt 26 (.slice none 0 c) (some (.int .i64 0)) none none).run Try.prog W = _
      go_simp
    · exact h
  · rcases Nat.eq_zero_or_pos n with h0 | h0
    · subst h0
      obtain rfl : k = 0 := by omega
      refine ⟨some ⟨g, off, sp⟩, c, some ⟨g, off, sp⟩, c, fun W => ?_, ?_, fun W => ?_, ?_⟩
      · show (Instr.sliceAt 26 (.slice (some ⟨g, off, sp⟩) 0 c) none (some (.int .i64 0)) none).run Try.prog W = _
        go_simp
      · rw [List.length_eq_zero_iff.1 hn] at h ⊢
        exact h
      · show (Instr.sliceAt 26 (.slice (some ⟨g, off, sp⟩) 0 c) (some (.int .i64 0)) none none).run Try.prog W = _
        cases sp <;> go_simp
      · rw [List.length_eq_zero_iff.1 hn] at h ⊢
        exact h
    · obtain ⟨g', off', e5⟩ := row_plain h h0 hn
      injection e5 with e5 e6 e7
      subst e7
      refine ⟨some ⟨g, off, none⟩, c, _, _, fun W => ?_, row_head h hn hk, fun W => ?_, row_tail h hn hk⟩
      · go_simp
      · by_cases hck : c = k
        · rw [if_pos hck]
          go_simp
        · rw [if_neg hck]
          go_simp
theorem flat2_len : ∀ l : List (Sct × Value), (l.flatMap s2).length = l.length * 2
  | [] => rfl
  | a :: l => by rw [List.flatMap_cons, List.length_append, flat2_len l, List.length_cons]; simp [s2]; omega
theorem flat2_inv : ∀ (l : List (Sct × Value)) (j : Nat) (u : Value), (l.flatMap s2)[j]? = some u → ∃ p, l[j / 2]? = some p ∧ (s2 p)[j % 2]? = some u
  | [], j, u, h => by simp at h
  | a :: l, j, u, h => by
    rw [List.flatMap_cons] at h
    by_cases hj : j < 2
    · rw [List.getElem?_append_left (by simp [s2]; omega)] at h
      refine ⟨a, by rw [show j / 2 = 0 from by omega]; rfl, by rw [show j % 2 = j from by omega]; exact h⟩
    · rw [List.getElem?_append_right (by simp [s2]; omega), show (s2 a).length = 2 from by simp [s2]] at h
      obtain ⟨p, h1, h2⟩ := flat2_inv l (j - 2) u h
      refine ⟨p, ?_, by rw [show j % 2 = (j - 2) % 2 from by omega]; exact h2⟩
      rw [show j / 2 = (j - 2) / 2 + 1 from by omega, List.getElem?_cons_succ]
      exact h1
theorem rowS_one {w : World} {l : List (Sct × Value)} (h : ∀ p ∈ l, ScOk w p) : ∀ u ∈ l.flatMap s2, u.oneCell' = true := by
  intro u hu
  obtain ⟨p, hp, hu⟩ := List.mem_flatMap.1 hu
  obtain ⟨P, c, e, _⟩ := (h p hp).1
  simp only [s2, e, List.mem_cons, List.not_mem_nil, or_false] at hu
  rcases hu with rfl | rfl <;> rfl
theorem rowS_cells {w : World} {g off n c : Nat} {l : List (Sct × Value)} (h : ScRow w (.slice (some ⟨g, off, none⟩) n c) l) : ∀ j u, (l.flatMap s2)[j]? = some u → w.cell? ((⟨g, off, none⟩ : Addr).add j) = some u := by
  intro j u hu
  rw [s_plain]
  obtain ⟨p, h1, h2⟩ := flat2_inv l j u hu
  obtain ⟨g', off', e, hC, _⟩ := h.at_ h1
  simp only [Option.some.injEq, Addr.mk.injEq, and_true] at e
  obtain ⟨rfl, rfl⟩ := e
  obtain ⟨q0, q1⟩ := hC
  have hm : j % 2 < 2 := Nat.mod_lt _ (by decide)
  have hj : off + j = off + j / 2 * 2 + j % 2 := by omega
  rw [hj]
  generalize j % 2 = r at h2 hm
  match r, hm with
  | 0, _ => simp only [s2, List.getElem?_cons_zero, Option.some.injEq] at h2; subst h2; exact q0
  | 1, _ => simp only [s2, List.getElem?_cons_zero, List.getElem?_cons_succ, Option.some.injEq] at h2; subst h2; exact q1
/-- A row of the call's own, or an empty one without room. -/
def EO (w : World) (B : Nat) (v : Value) (l : List (Sct × Value)) : Prop := (∃ a, v = .slice (some a) 0 0 ∧ l = []) ∨ OwnS 40 w B v l
theorem EO.keep {w w' : World} {B : Nat} {v : Value} {l : List (Sct × Value)} (h : EO w B v l) (hb : Below w.heap.size w w') : EO w' B v l := by
  rcases h with h | h
  · exact .inl h
  · exact .inr (own_keep h hb)
theorem EO.row {w : World} {B : Nat} {v : Value} {l : List (Sct × Value)} (h : EO w B v l) (hok : ∀ p ∈ l, ScOk w p) : ScRow w v l := by
  rcases h with ⟨a, rfl, rfl⟩ | h
  · exact ⟨⟨_, 0, rfl, Nat.le_refl _, by omega, fun h => absurd rfl h⟩, by simp⟩
  · exact OwnS.row h hok
theorem run_rowsS (w : World) (ty : TypeId) (B : Nat) (v : Value) (done l : List (Sct × Value)) (hown : EO w B v done) (A : Option Addr) (n c m : Nat) (hn : l.length = n) (hl : ScRow w (.slice A n c) l) (hm : done.length + n = m) (hlen : m ≤ 100000) (hB : B ≤ w.heap.size) :
    ∃ g c' w', (Builtin.append_ #[26, 26] ty #[v, .slice A n c]).run Try.prog w = .ok (.slice g m c') w' ∧ EO w' B (.slice g m c') (done ++ l) ∧ Below B w w' ∧ ((∃ a, v = .slice (some a) 0 0) → Below w.heap.size w w') := by
  subst hn
  have hcase : (∃ a, v = .slice (some a) 0 0 ∧ done = []) ∨ (OwnS 40 w B v done ∧ ¬ ∃ a, v = .slice (some a) 0 0) := by
    rcases hown with h | h
    · exact .inl h
    · by_cases hv : ∃ a, v = .slice (some a) 0 0
      · obtain ⟨a, hv⟩ := hv
        refine .inl ⟨a, hv, ?_⟩
        obtain ⟨P, c, e⟩ := OwnS.form h
        rw [hv] at e
        injection e with _ e _
        exact List.length_eq_zero_iff.1 e.symm
      · exact .inr ⟨h, hv⟩
  clear hown
  obtain ⟨i0, hi, hz0, hz1, hz2⟩ := info_parts psect_info
  have hu := Try.underlying26
  have hfc : ∀ ad : Addr, (Builtin.firstCells 2 0 (.slice (some ad) 0 c)).run Try.prog w = .ok #[] w := fun ad => by
    have := run_firstCells_some (P := Try.prog) w 2 0 ad 0 c [] (by simp) (by simp)
    simpa using this
  rcases Nat.eq_zero_or_pos l.length with hl0 | hl0
  · have hl' : l = [] := List.length_eq_zero_iff.1 hl0
    subst hl'
    rcases hcase with ⟨a, rfl, rfl⟩ | ⟨hown, hnv⟩
    · subst hm
      refine ⟨some a, 0, w, ?_, .inl ⟨a, rfl, rfl⟩, Below.refl _ _, fun _ => Below.refl _ _⟩
      rcases A with _ | ad
      · simp [Builtin.append_, run_underlying hu, sizeOf, typeInfo, hi, Builtin.lenOf, Builtin.firstCells, storeCells]
      · simp [Builtin.append_, run_underlying hu, sizeOf, typeInfo, hi, hz1, Builtin.lenOf, hfc, storeCells]
    · obtain ⟨P, cv, hv⟩ := OwnS.form hown
      subst hm
      refine ⟨P, cv, w, ?_, .inr (by rw [List.append_nil]; rw [hv] at hown; exact hown), Below.refl _ _, fun _ => Below.refl _ _⟩
      obtain ⟨_, ⟨e, hn⟩ | ⟨g', cp', cur, e, _, _, hn, _⟩⟩ := id hown
      · subst e
        rw [hv]
        rw [hn] at hv ⊢
        injection hv with e1 e2 e3
        subst e1 e3
        rcases A with _ | ad
        · simp [Builtin.append_, run_underlying hu, sizeOf, typeInfo, hi, Builtin.lenOf, Builtin.firstCells]
        · simp [Builtin.append_, run_underlying hu, sizeOf, typeInfo, hi, hz1, Builtin.lenOf, hfc]
      · subst e
        injection hv with e1 e2 e3
        subst e1 e3
        rcases A with _ | ad
        · simp [Builtin.append_, run_underlying hu, sizeOf, typeInfo, hi, Builtin.lenOf, Builtin.firstCells, storeCells, hn]
        · simp [Builtin.append_, run_underlying hu, sizeOf, typeInfo, hi, hz1, Builtin.lenOf, hfc, storeCells, hn]
  · obtain ⟨g1, off1, rfl⟩ : ∃ g off, A = some ⟨g, off, none⟩ := by
      obtain ⟨⟨A', c', h1, _, _, h4⟩, _⟩ := id hl
      obtain ⟨g, off, e, _⟩ := h4 (fun e => by rw [e] at hl0; simp at hl0)
      injection h1 with e1
      rw [e] at e1
      exact ⟨g, off, e1⟩
    have hcells := rowS_cells hl
    rcases hcase with ⟨a, rfl, rfl⟩ | ⟨hown, hnv⟩
    · obtain ⟨v', w', hr, h1, h2⟩ := run_append_arg_grows (P := Try.prog) w 26 ty 40 i0 (.agg #[.int .i64 0, .slice none 0 0]) 2 32 hu hi hz0 hz1 hz2 rfl (by decide) a 0 0 [] rfl (by simp) ⟨g1, off1, none⟩ l.length c (l.flatMap s2) (by rw [flat2_len]) hcells (by omega) (by simp only [maxLen]; simp at hm; omega) (by simp at hm; omega)
      rw [List.nil_append] at h1
      have h1' : OwnS 40 w' w.heap.size v' l := by
        have := h1
        rw [Nat.zero_add] at this
        exact this
      obtain ⟨P, cv, hv⟩ := OwnS.form h1'
      subst hv
      simp at hm
      subst hm
      have hb : Below w.heap.size w w' := (Below.refl _ _).grown h2 (Nat.le_refl _) (fun k hk => by cases hk)
      exact ⟨P, cv, w', hr, .inr (own_low h1' hB), hb.mono hB, fun _ => hb⟩
    · obtain ⟨v', w', hr, h1, h2, h3⟩ := run_append_own (P := Try.prog) w B 26 ty 40 i0 (.agg #[.int .i64 0, .slice none 0 0]) 2 32 hu hi hz0 hz1 hz2 rfl (by decide) v _ _ hown ⟨g1, off1, none⟩ l.length c (l.flatMap s2) (by rw [flat2_len]) hcells (rowS_one hl.2) (by simp only [maxLen]; omega) (by omega) hB
      have h1' : OwnS 40 w' B v' (done ++ l) := by
        unfold OwnS
        rw [List.flatMap_append, List.length_append]
        exact h1
      obtain ⟨P, cv, hv⟩ := OwnS.form h1'
      have hmm : (done ++ l).length = m := by rw [List.length_append]; exact hm
      rw [hmm] at hv
      subst hv
      refine ⟨P, cv, w', hr, .inr h1', (Below.refl _ _).grown h2 (by omega) (fun k hk => (World.ownsRow.lt hown k hk).1), fun h0 => absurd h0 hnv⟩
end Go.Proofs.Ytkdnhhhgggmapaa.Sec
