/- 'append' of rows to rows of the call's own: instructions, and numbers. -/
import Derived.Test.YtdmidagcdhhlhaaDoorBodRows
namespace Go.Proofs.YtdmidagcdhhlhaaDoor.Bod
open Go.RowKit Ints Typ Ins
set_option maxRecDepth 100000
set_option maxHeartbeats 1000000
set_option linter.unusedVariables false
theorem flat5_len : ∀ l : List (Ins × Value), (l.flatMap c5).length = l.length * 5
  | [] => rfl
  | a :: l => by rw [List.flatMap_cons, List.length_append, flat5_len l, List.length_cons]; simp [c5]; omega
theorem flat5_inv : ∀ (l : List (Ins × Value)) (j : Nat) (u : Value), (l.flatMap c5)[j]? = some u → ∃ p, l[j / 5]? = some p ∧ (c5 p)[j % 5]? = some u
  | [], j, u, h => by simp at h
  | a :: l, j, u, h => by
    rw [List.flatMap_cons] at h
    by_cases hj : j < 5
    · rw [List.getElem?_append_left (by simp [c5]; omega)] at h
      refine ⟨a, by rw [show j / 5 = 0 from by omega]; rfl, by rw [show j % 5 = j from by omega]; exact h⟩
    · rw [List.getElem?_append_right (by simp [c5]; omega), show (c5 a).length = 5 from by simp [c5]] at h
      obtain ⟨p, h1, h2⟩ := flat5_inv l (j - 5) u h
      refine ⟨p, ?_, by rw [show j % 5 = (j - 5) % 5 from by omega]; exact h2⟩
      rw [show j / 5 = (j - 5) / 5 + 1 from by omega, List.getElem?_cons_succ]
      exact h1
theorem row_one {w : World} {l : List (Ins × Value)} (h : ∀ p ∈ l, InOk w p) : ∀ u ∈ l.flatMap c5, u.oneCell' = true := by
  intro u hu
  obtain ⟨p, hp, hu⟩ := List.mem_flatMap.1 hu
  obtain ⟨P, c, e, _⟩ := (h p hp).1
  simp only [c5, e, List.mem_cons, List.not_mem_nil, or_false] at hu
  rcases hu with rfl | rfl | rfl | rfl | rfl <;> rfl
theorem row_cells {w : World} {g off n c : Nat} {l : List (Ins × Value)} (h : InRow w (.slice (some ⟨g, off, none⟩) n c) l) : ∀ j u, (l.flatMap c5)[j]? = some u → w.cell? ((⟨g, off, none⟩ : Addr).add j) = some u := by
  intro j u hu
  rw [Typ.add_plain]
  obtain ⟨p, h1, h2⟩ := flat5_inv l j u hu
  obtain ⟨g', off', e, hC, _⟩ := h.at_ h1
  simp only [Option.some.injEq, Addr.mk.injEq, and_true] at e
  obtain ⟨rfl, rfl⟩ := e
  obtain ⟨q0, q1, q2, q3, q4⟩ := hC
  have hm : j % 5 < 5 := Nat.mod_lt _ (by decide)
  have hj : off + j = off + j / 5 * 5 + j % 5 := by omega
  rw [hj]
  generalize j % 5 = r at h2 hm
  match r, hm with
  | 0, _ => simp only [c5, List.getElem?_cons_zero, Option.some.injEq] at h2; subst h2; exact q0
  | 1, _ => simp only [c5, List.getElem?_cons_zero, List.getElem?_cons_succ, Option.some.injEq] at h2; subst h2; exact q1
  | 2, _ => simp only [c5, List.getElem?_cons_zero, List.getElem?_cons_succ, Option.some.injEq] at h2; subst h2; exact q2
  | 3, _ => simp only [c5, List.getElem?_cons_zero, List.getElem?_cons_succ, Option.some.injEq] at h2; subst h2; exact q3
  | 4, _ => simp only [c5, List.getElem?_cons_zero, List.getElem?_cons_succ, Option.some.injEq] at h2; subst h2; exact q4
theorem run_rows (w : World) (ty : TypeId) (B : Nat) (v : Value) (done l : List (Ins × Value)) (hown : OwnR w B v done) (A : Option Addr) (c : Nat) (hl : InRow w (.slice A l.length c) l) (hlen : done.length + l.length ≤ 100000) (hB : B ≤ w.heap.size) :
    ∃ v' w', (Builtin.append_ #[22, 22] ty #[v, .slice A l.length c]).run Tryd.prog w = .ok v' w' ∧ OwnR w' B v' (done ++ l) ∧ Below B w w' := by
  obtain ⟨i0, hi, hz0, hz1, hz2⟩ := info_parts instr_info
  rcases A with _ | ad
  · have hl0 : l = [] := by
      rcases l with _ | ⟨x, l⟩
      · rfl
      · obtain ⟨⟨A', c', h1, _, _, h4⟩, _⟩ := hl
        obtain ⟨g, off, e, _⟩ := h4 (by simp)
        injection h1 with e1
        rw [e] at e1
        cases e1
    subst hl0
    refine ⟨v, w, ?_, by simpa using hown, Below.refl _ _⟩
    have hu := Tryd.underlying22
    obtain ⟨h1, h2⟩ := hown
    rcases h2 with ⟨e, hn⟩ | ⟨g', cp', cur, e, _, _, hn, _⟩
    · subst e
      simp [Builtin.append_, run_underlying hu, sizeOf, typeInfo, hi, Builtin.lenOf, Builtin.firstCells]
    · subst e
      simp [Builtin.append_, run_underlying hu, sizeOf, typeInfo, hi, Builtin.lenOf, Builtin.firstCells, hn, storeCells]
  · have hcells : ∀ j u, (l.flatMap c5)[j]? = some u → w.cell? (ad.add j) = some u := fun j u hu => by
      have hl0 : l ≠ [] := fun e => by rw [e] at hu; simp at hu
      obtain ⟨⟨A', c', h1, _, _, h4⟩, _⟩ := id hl
      obtain ⟨g, off, e, _⟩ := h4 hl0
      injection h1 with e1
      rw [e] at e1
      obtain rfl := Option.some.inj e1
      exact row_cells hl j u hu
    obtain ⟨v', w', hr, h1, h2, h3⟩ := run_append_own (P := Tryd.prog) w B 22 ty 50 i0 (.agg #[.int .i64 0, .int .i64 0, .int .i64 0, .int .u64 0, .slice none 0 0]) 5 56 Tryd.underlying22 hi hz0 hz1 hz2 rfl (by decide) v _ _ hown ad l.length c (l.flatMap c5) (by rw [flat5_len]) hcells (row_one hl.2) (by simp only [maxLen]; omega) (by omega) hB
    have h1' : OwnR w' B v' (done ++ l) := by
      unfold OwnR
      rw [List.flatMap_append, List.length_append]
      exact h1
    refine ⟨v', w', hr, h1', (Below.refl _ _).grown h2 (by omega) (fun k hk => (World.ownsRow.lt hown k hk).1)⟩
theorem wp_rows {ops : Array Oper} {rest : List Oper} {o : Oper} {a : Act} {Q : Exit → Act → World → Prop} (w : World) (hgd : o.guard = none) (s x : Operand)
    (ho : o.op = .call { callee := .builtin .append, args := #[s, x], argTypes := #[22, 22] }) (B : Nat) (v : Value) (done l : List (Ins × Value)) (hs : a.eval s = v) (hown : OwnR w B v done)
    (A : Option Addr) (c : Nat) (hx : a.eval x = .slice A l.length c) (hl : InRow w (.slice A l.length c) l) (hlen : done.length + l.length ≤ 100000) (hB : B ≤ w.heap.size)
    (h : ∀ v' w', OwnR w' B v' (done ++ l) → Below B w w' → wpList Tryd.prog ops Q rest (a.put o.dst v') w') : wpList Tryd.prog ops Q (o :: rest) a w := by
  refine wpList_plain hgd fun K hK => ?_
  obtain ⟨v', w', hr, h1, h2⟩ := run_rows w o.type B v done l hown A c hl hlen hB
  unfold Oper.wp
  simp only [execOp, ho, resolve, invoke, builtin, Sem.run_bind, Sem.run_pure, Result.andThen_ok, List.map_toArray, List.map_cons, List.map_nil, hs, hx, hr]
  exact hK _ _ (h v' w' h1 h2)
theorem vi_app (a b : List Int) : vi (a ++ b) = vi a ++ vi b := by simp [vi]
theorem num_cells {w : World} {P : Option Addr} {n c : Nat} {l : List Int} (h : SlI w (.slice P n c) l) {ad : Addr} (hP : P = some ad) : ∀ j u, (vi l)[j]? = some u → w.cell? (ad.add j) = some u := by
  intro j u hu
  have hj : j < l.length := by
    have := (List.getElem?_eq_some_iff.1 hu).1
    simpa [vi] using this
  obtain ⟨g, off, e, hc⟩ := h.at_ hj
  rw [hP] at e
  obtain rfl := Option.some.inj e
  rw [Typ.add_plain, hc]
  rw [← hu]
  unfold vi
  rw [List.getElem?_map, List.getElem?_eq_getElem hj, List.getD_eq_getElem?_getD, List.getElem?_eq_getElem hj]
  rfl
theorem run_nums (w : World) (ty : TypeId) (B : Nat) (v : Value) (done l : List Int) (hown : OwnI w B v done) (A : Option Addr) (c : Nat) (hl : SlI w (.slice A l.length c) l) (hlen : done.length + l.length ≤ 100000) (hB : B ≤ w.heap.size) :
    ∃ v' w', (Builtin.append_ #[44, 44] ty #[v, .slice A l.length c]).run Tryd.prog w = .ok v' w' ∧ OwnI w' B v' (done ++ l) ∧ Below B w w' := by
  obtain ⟨i0, hi, hz0, hz1, hz2⟩ := info_parts int_info
  rcases A with _ | ad
  · have hl0 : l = [] := by
      rcases l with _ | ⟨x, l⟩
      · rfl
      · obtain ⟨g, off, e, _⟩ := hl.at_ (j := 0) (by simp)
        cases e
    subst hl0
    refine ⟨v, w, ?_, by simpa using hown, Below.refl _ _⟩
    have hu := Tryd.underlying44
    obtain ⟨h1, h2⟩ := hown
    rcases h2 with ⟨e, hn⟩ | ⟨g', cp', cur, e, _, _, hn, _⟩
    · subst e
      simp [Builtin.append_, run_underlying hu, sizeOf, typeInfo, hi, Builtin.lenOf, Builtin.firstCells]
    · subst e
      simp [Builtin.append_, run_underlying hu, sizeOf, typeInfo, hi, Builtin.lenOf, Builtin.firstCells, hn, storeCells]
  · obtain ⟨v', w', hr, h1, h2, h3⟩ := run_append_own (P := Tryd.prog) w B 44 ty 3 i0 (.int .i64 0) 1 8 Tryd.underlying44 hi hz0 hz1 hz2 rfl (by decide) v _ _ hown ad l.length c (vi l) (by simp [vi]) (num_cells hl rfl) (by intro u hu; simp only [vi, List.mem_map] at hu; obtain ⟨x, _, rfl⟩ := hu; rfl) (by simp only [maxLen]; omega) (by omega) hB
    refine ⟨v', w', hr, ?_, (Below.refl _ _).grown h2 (by omega) (fun k hk => (World.ownsRow.lt hown k hk).1)⟩
    have h1' : w'.ownsRow B 3 1 v' (done ++ l).length (vi (done ++ l)) := by rw [vi_app, List.length_append]; exact h1
    exact h1'
theorem wp_nums {ops : Array Oper} {rest : List Oper} {o : Oper} {a : Act} {Q : Exit → Act → World → Prop} (w : World) (hgd : o.guard = none) (s x : Operand)
    (ho : o.op = .call { callee := .builtin .append, args := #[s, x], argTypes := #[44, 44] }) (B : Nat) (v : Value) (done l : List Int) (hs : a.eval s = v) (hown : OwnI w B v done)
    (A : Option Addr) (c : Nat) (hx : a.eval x = .slice A l.length c) (hl : SlI w (.slice A l.length c) l) (hlen : done.length + l.length ≤ 100000) (hB : B ≤ w.heap.size)
    (h : ∀ v' w', OwnI w' B v' (done ++ l) → Below B w w' → wpList Tryd.prog ops Q rest (a.put o.dst v') w') : wpList Tryd.prog ops Q (o :: rest) a w := by
  refine wpList_plain hgd fun K hK => ?_
  obtain ⟨v', w', hr, h1, h2⟩ := run_nums w o.type B v done l hown A c hl hlen hB
  unfold Oper.wp
  simp only [execOp, ho, resolve, invoke, builtin, Sem.run_bind, Sem.run_pure, Result.andThen_ok, List.map_toArray, List.map_cons, List.map_nil, hs, hx, hr]
  exact hK _ _ (h v' w' h1 h2)
end Go.Proofs.YtdmidagcdhhlhaaDoor.Bod
