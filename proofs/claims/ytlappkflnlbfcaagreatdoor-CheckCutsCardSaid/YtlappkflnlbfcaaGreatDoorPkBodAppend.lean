/- BodPlain, BodAroundP, BodAppend. -/
import Derived.Test.YtlappkflnlbfcaaGreatDoorPkBodApp
import Derived.Test.YtlappkflnlbfcaaGreatDoorPkBodNested
import Derived.Test.YtlappkflnlbfcaaGreatDoorPkBodTurnC
section
/- What is nested: ends in one another, as many as open; what one stands in; bodies behind and in bodies. Plain lists. -/
namespace Go.Proofs.YtlappkflnlbfcaaGreatDoor.Bod
set_option maxRecDepth 100000
set_option maxHeartbeats 1000000
set_option linter.unusedVariables false

/-- Places moved on, over what lies below. -/
def mv (c : Nat) (a : Nat × Bool × Int) : Nat × Bool × Int := (a.1 + c, a.2.1, if a.2.2 < 0 then a.2.2 else a.2.2 + (c : Int))
def shS (c : Nat) (T S : Stk) : Stk := S.map (mv c) ++ T
theorem step_shift {c p : Nat} {op : Int} {T S S' : Stk} (h : stepS p op S = some S') : stepS (p + c) op (shS c T S) = some (shS c T S') := by
  unfold stepS at h ⊢
  by_cases h1 : opn op = true
  · rw [if_pos h1] at h ⊢
    rw [← Option.some.inj h]
    rfl
  · rw [if_neg h1] at h ⊢
    by_cases h2 : op = 5
    · rw [if_pos h2] at h ⊢
      cases S with
      | nil => cases h
      | cons a S =>
        obtain ⟨k, f, o⟩ := a
        cases f with
        | false => cases h
        | true =>
          simp only at h
          by_cases h3 : o < 0
          · rw [if_pos h3] at h
            rw [← Option.some.inj h]
            have e1 : mv c (k, true, o) = (k + c, true, o) := by simp [mv, h3]
            have e2 : mv c (k, true, (p : Int)) = (k + c, true, ((p + c : Nat) : Int)) := by
              simp only [mv]
              rw [if_neg (by omega)]
              simp
            simp only [shS, List.map_cons, List.cons_append, e1, e2]
            rw [if_pos h3]
          · rw [if_neg h3] at h; cases h
    · rw [if_neg h2] at h ⊢
      by_cases h3 : op = 11
      · rw [if_pos h3] at h ⊢
        cases S with
        | nil => cases h
        | cons a S =>
          simp only at h
          rw [← Option.some.inj h]
          rfl
      · rw [if_neg h3] at h ⊢
        rw [← Option.some.inj h]
theorem getD_mid {a m z : List Int} {p : Nat} (hp : p < m.length) : (a ++ m ++ z).getD (p + a.length) 0 = m.getD p 0 := by
  rw [List.getD_eq_getElem?_getD, List.getD_eq_getElem?_getD, List.append_assoc, List.getElem?_append_right (by omega), List.getElem?_append_left (by omega), Nat.add_sub_cancel]
theorem st_shift {a m z : List Int} {T : Stk} (hT : st (a ++ m ++ z) a.length = some T) : ∀ {p : Nat} {S : Stk}, p ≤ m.length → st m p = some S → st (a ++ m ++ z) (p + a.length) = some (shS a.length T S)
  | 0, S, _, h => by
    obtain rfl := Option.some.inj h
    rw [Nat.zero_add]
    exact hT
  | p + 1, S, hp, h => by
    obtain ⟨S0, h0⟩ := st_before h
    have ih := st_shift hT (p := p) (by omega) h0
    have hs := st_succ h0 h
    have e : st (a ++ m ++ z) (p + 1 + a.length) = (st (a ++ m ++ z) (p + a.length)).bind fun S => stepS (p + a.length) ((a ++ m ++ z).getD (p + a.length) 0) S := by
      rw [show p + 1 + a.length = p + a.length + 1 from by omega]
      rfl
    rw [e, ih, getD_mid (by omega)]
    exact step_shift hs
theorem st_front {a z : List Int} : ∀ {p : Nat}, p ≤ a.length → st (a ++ z) p = st a p
  | 0, _ => rfl
  | p + 1, hp => by
    have e1 : st (a ++ z) (p + 1) = (st (a ++ z) p).bind fun S => stepS p ((a ++ z).getD p 0) S := rfl
    have e2 : st a (p + 1) = (st a p).bind fun S => stepS p (a.getD p 0) S := rfl
    rw [e1, e2, st_front (p := p) (by omega)]
    have : (a ++ z).getD p 0 = a.getD p 0 := by
      rw [List.getD_eq_getElem?_getD, List.getD_eq_getElem?_getD, List.getElem?_append_left (by omega)]
    rw [this]
/-- What nested ones stand in, moved on. -/
theorem sIn_shift {a m z : List Int} {T : Stk} (hm : Nested m) (hT : st (a ++ m ++ z) a.length = some T) {p : Nat} (hp : p < m.length) : sIn (a ++ m ++ z) (p + a.length) = shS a.length T (sIn m p) := by
  have h0 := sAt_st hm (p := p) (by omega)
  have h1 := st_shift hT (p := p) (by omega) h0
  have hA : sAt (a ++ m ++ z) (p + a.length) = shS a.length T (sAt m p) := by
    unfold sAt at h1 ⊢
    rw [h1]
    rfl
  unfold sIn
  rw [hA, getD_mid hp]
  by_cases g : m.getD p 0 = 5 ∨ m.getD p 0 = 11
  · rw [if_pos g, if_pos g]
    have hne : ∃ x S, sAt m p = x :: S := by
      rcases g with g | g
      · obtain ⟨k, o, S, t1, _⟩ := top_else hm hp g
        exact ⟨_, _, Option.some.inj (h0.symm.trans t1)⟩
      · obtain ⟨k, f, o, S, t1, _⟩ := top_end hm hp g
        exact ⟨_, _, Option.some.inj (h0.symm.trans t1)⟩
    obtain ⟨x, S, e⟩ := hne
    rw [e]
    rfl
  · rw [if_neg g, if_neg g]
/-- One behind the other: nested, and as deep. -/
theorem nested_app {a b : List Int} (ha : Nested a) (hb : Nested b) : Nested (a ++ b) ∧ depL (a ++ b) (a ++ b).length = depL a a.length ++ depL b b.length := by
  have hT : st (a ++ b ++ []) a.length = some [] := by
    rw [List.append_assoc, st_front (Nat.le_refl _)]
    exact ha
  have hN : Nested (a ++ b) := by
    have := st_shift hT (Nat.le_refl _) hb
    rw [List.append_nil] at this
    unfold Nested
    rw [List.length_append, Nat.add_comm]
    exact this
  refine ⟨hN, ?_⟩
  unfold depL
  rw [List.length_append, List.range_add, List.map_append, List.map_map]
  congr 1
  · apply List.map_congr_left
    intro p hp
    have hp : p < a.length := by simpa using hp
    unfold aroundD sIn sAt
    rw [st_front (by omega)]
    have : (a ++ b).getD p 0 = a.getD p 0 := by
      rw [List.getD_eq_getElem?_getD, List.getD_eq_getElem?_getD, List.getElem?_append_left hp]
    rw [this]
  · apply List.map_congr_left
    intro p hp
    have hp : p < b.length := by simpa using hp
    have h := sIn_shift hb hT hp
    rw [List.append_nil] at h
    show ((aroundD (a ++ b) (a.length + p)).length : Int) = _
    unfold aroundD
    rw [Nat.add_comm, h]
    simp [shS]
/-- In a block: nested, one deeper. -/
theorem nested_in {l : List Int} (h : Nested l) : Nested (2 :: l ++ [11]) ∧ (∀ p, p < l.length → (aroundD (2 :: l ++ [11]) (p + 1)).length = (aroundD l p).length + 1) ∧ (aroundD (2 :: l ++ [11]) 0).length = 0 ∧ (aroundD (2 :: l ++ [11]) (l.length + 1)).length = 0 ∧ (dEnd (2 :: l ++ [11]) 0).1 = ((l.length + 1 : Nat) : Int) := by
  have hT : st ([2] ++ l ++ [11]) [(2 : Int)].length = some [(0, false, -1)] := rfl
  have hend := st_shift hT (Nat.le_refl _) h
  have e0 : st (2 :: l ++ [11]) (l.length + 1) = some [(0, false, -1)] := hend
  have g11 : (2 :: l ++ [11] : List Int).getD (l.length + 1) 0 = 11 := by
    rw [List.getD_eq_getElem?_getD, List.getElem?_append_right (by simp)]
    simp
  have hN : Nested (2 :: l ++ [11]) := by
    unfold Nested
    have el : (2 :: l ++ [11] : List Int).length = l.length + 1 + 1 := by simp
    have e1 : st (2 :: l ++ [11]) (l.length + 1 + 1) = (st (2 :: l ++ [11]) (l.length + 1)).bind fun S => stepS (l.length + 1) ((2 :: l ++ [11] : List Int).getD (l.length + 1) 0) S := rfl
    rw [el, e1, e0, g11]
    rfl
  have hA : sAt (2 :: l ++ [11]) (l.length + 1) = [(0, false, -1)] := by unfold sAt; rw [e0]; rfl
  refine ⟨hN, fun p hp => ?_, ?_, ?_, ?_⟩
  · have hh := sIn_shift h hT hp
    have hh : sIn (2 :: l ++ [11]) (p + 1) = shS 1 [(0, false, -1)] (sIn l p) := hh
    unfold aroundD
    rw [hh]
    simp [shS]
  · unfold aroundD sIn sAt
    simp [st]
  · unfold aroundD sIn
    rw [if_pos (.inr g11), hA]
    rfl
  · obtain ⟨k, f, o, S, t1, t2, t3, t4⟩ := top_end hN (p := l.length + 1) (by simp) g11
    rw [e0] at t1
    have t1 := Option.some.inj t1
    simp only [List.cons.injEq, Prod.mk.injEq] at t1
    obtain ⟨⟨rfl, _, _⟩, _⟩ := t1
    rw [t4]
end Go.Proofs.YtlappkflnlbfcaaGreatDoor.Bod
end

section
/- What an instruction stands in, by the program: walked. -/
namespace Go.Proofs.YtlappkflnlbfcaaGreatDoor.Bod
open Go.RowKit Ints Typ Ins
set_option maxRecDepth 100000
set_option maxHeartbeats 2000000
set_option linter.unusedVariables false
theorem OwnP.take {e : TypeId} {w : World} {B n c d : Nat} {P : Option Addr} {l : List (Int × Int)} (h : OwnP e w B (.slice P n c) l) (hd : d ≤ n) : OwnP e w B (.slice P d c) (l.take d) ∧ d ≤ c ∧ c ≤ 9223372036854775807 ∧ ((P = none ∧ n = 0 ∧ c = 0) ∨ ∃ g, P = some ⟨g, 0, none⟩) := by
  obtain ⟨h1, ⟨hv, hl⟩ | ⟨g', cap, cur, hv, hB, hc, hle, hm, hsz, ht⟩⟩ := h
  · injection hv with e1 e2 e3
    subst e1 e2 e3
    obtain rfl : d = 0 := by omega
    exact ⟨⟨rfl, .inl ⟨rfl, by simp⟩⟩, Nat.le_refl _, by omega, .inl ⟨rfl, rfl, rfl⟩⟩
  · injection hv with e1 e2 e3
    subst e1 e2 e3
    have hlen := flat2_len l
    have hdl : (l.take d).length = d := by rw [List.length_take]; omega
    refine ⟨⟨flat2_len _, .inr ⟨g', c, cur, by rw [hdl], hB, hc, by omega, hm, hsz, ?_⟩⟩, by omega, by unfold maxLen at hm; omega, .inr ⟨g', rfl⟩⟩
    rw [hdl]
    have h2 : l.flatMap c2 = (l.take d).flatMap c2 ++ (l.drop d).flatMap c2 := by rw [← List.flatMap_append, List.take_append_drop]
    have := congrArg (List.take (d * 2)) ht
    rw [List.take_take, h2, List.take_append_of_le_length (by rw [flat2_len, hdl]; exact Nat.le_refl _), show ((l.take d).flatMap c2).take (d * 2) = (l.take d).flatMap c2 from List.take_of_length_le (by rw [flat2_len, hdl]; exact Nat.le_refl _), show min (d * 2) (l.length * 2) = d * 2 from by omega] at this
    exact this
theorem InRow.take {w : World} {A : Option Addr} {n c k : Nat} {l : List (Ins × Value)} (h : InRow w (.slice A n c) l) (hk : k ≤ l.length) : InRow w (.slice A k c) (l.take k) := by
  obtain ⟨⟨A', c', h1, h2, h3, h4⟩, h5⟩ := h
  injection h1 with e1 e2 e3
  subst e1 e2 e3
  have hl : (l.take k).length = k := by rw [List.length_take]; omega
  refine ⟨⟨A, c, by rw [hl], by omega, h3, fun h0 => ?_⟩, fun p hp => h5 p (List.mem_of_mem_take hp)⟩
  have hne : l ≠ [] := fun e => h0 (by rw [e]; simp)
  obtain ⟨g, off, e, hg, hB⟩ := h4 hne
  refine ⟨g, off, e, hg, fun j p hp => hB j p ?_⟩
  rw [List.getElem?_take] at hp
  split at hp
  · exact hp
  · cases hp
end Go.Proofs.YtlappkflnlbfcaaGreatDoor.Bod
end

section
/- 'append' of rows to rows of the call's own: instructions, and numbers. -/
namespace Go.Proofs.YtlappkflnlbfcaaGreatDoor.Bod
open Go.RowKit Ints Typ Ins
set_option maxRecDepth 100000
set_option maxHeartbeats 1000000
set_option linter.unusedVariables false
theorem flat5_len : ∀ l : List (Ins × Value), (l.flatMap c5).length = l.length * 5
  | [] => rfl
  | a :: l => by rw [List.flatMap_cons, List.length_append, flat5_len l, List.length_cons]; simp [c5]; omega
theorem flat5_inv : ∀ (l : List (Ins × Value)) (j : Nat) (u : Value), (l.flatMap c5)[j]? = some u → ∃ p, l[j / 5]? = some p ∧ (c5 p)[j % 5]? = some u
  | [], j, u, h => by simp at h
  | a :: l, j, u, h => by
    rw [List.flatMap_cons] at h
    by_cases hj : j < 5
    · rw [List.getElem?_append_left (by simp [c5]; omega)] at h
      refine ⟨a, by rw [show j / 5 = 0 from by omega]; rfl, by rw [show j % 5 = j from by omega]; exact h⟩
    · rw [List.getElem?_append_right (by simp [c5]; omega), show (c5 a).length = 5 from by simp [c5]] at h
      obtain ⟨p, h1, h2⟩ := flat5_inv l (j - 5) u h
      refine ⟨p, ?_, by rw [show j % 5 = (j - 5) % 5 from by omega]; exact h2⟩
      rw [show j / 5 = (j - 5) / 5 + 1 from by omega, List.getElem?_cons_succ]
      exact h1
theorem row_one {w : World} {l : List (Ins × Value)} (h : ∀ p ∈ l, InOk w p) : ∀ u ∈ l.flatMap c5, u.oneCell' = true := by
  intro u hu
  obtain ⟨p, hp, hu⟩ := List.mem_flatMap.1 hu
  obtain ⟨P, c, e, _⟩ := (h p hp).1
  simp only [c5, e, List.mem_cons, List.not_mem_nil, or_false] at hu
  rcases hu with rfl | rfl | rfl | rfl | rfl <;> rfl
theorem row_cells {w : World} {g off n c : Nat} {l : List (Ins × Value)} (h : InRow w (.slice (some ⟨g, off, none⟩) n c) l) : ∀ j u, (l.flatMap c5)[j]? = some u → w.cell? ((⟨g, off, none⟩ : Addr).add j) = some u := by
  intro j u hu
  rw [Typ.add_plain]
  obtain ⟨p, h1, h2⟩ := flat5_inv l j u hu
  obtain ⟨g', off', e, hC, _⟩ := h.at_ h1
  simp only [Option.some.injEq, Addr.mk.injEq, and_true] at e
  obtain ⟨rfl, rfl⟩ := e
  obtain ⟨q0, q1, q2, q3, q4⟩ := hC
  have hm : j % 5 < 5 := Nat.mod_lt _ (by decide)
  have hj : off + j = off + j / 5 * 5 + j % 5 := by omega
  rw [hj]
  generalize j % 5 = r at h2 hm
  match r, hm with
  | 0, _ => simp only [c5, List.getElem?_cons_zero, Option.some.injEq] at h2; subst h2; exact q0
  | 1, _ => simp only [c5, List.getElem?_cons_zero, List.getElem?_cons_succ, Option.some.injEq] at h2; subst h2; exact q1
  | 2, _ => simp only [c5, List.getElem?_cons_zero, List.getElem?_cons_succ, Option.some.injEq] at h2; subst h2; exact q2
  | 3, _ => simp only [c5, List.getElem?_cons_zero, List.getElem?_cons_succ, Option.some.injEq] at h2; subst h2; exact q3
  | 4, _ => simp only [c5, List.getElem?_cons_zero, List.getElem?_cons_succ, Option.some.injEq] at h2; subst h2; exact q4
theorem run_rows (w : World) (ty : TypeId) (B : Nat) (v : Value) (done l : List (Ins × Value)) (hown : OwnR w B v done) (A : Option Addr) (c : Nat) (hl : InRow w (.slice A l.length c) l) (hlen : done.length + l.length ≤ 100000) (hB : B ≤ w.heap.size) :
    ∃ v' w', (Builtin.append_ #[58, 58] ty #[v, .slice A l.length c]).run Tryz.prog w = .ok v' w' ∧ OwnR w' B v' (done ++ l) ∧ Below B w w' := by
  obtain ⟨i0, hi, hz0, hz1, hz2⟩ := info_parts instr_info
  rcases A with _ | ad
  · have hl0 : l = [] := by
      rcases l with _ | ⟨x, l⟩
      · rfl
      · obtain ⟨⟨A', c', h1, _, _, h4⟩, _⟩ := hl
        obtain ⟨g, off, e, _⟩ := h4 (by simp)
        injection h1 with e1
        rw [e] at e1
        cases e1
    subst hl0
    refine ⟨v, w, ?_, by simpa using hown, Below.refl _ _⟩
    have hu := Tryz.underlying58
    obtain ⟨h1, h2⟩ := hown
    rcases h2 with ⟨e, hn⟩ | ⟨g', cp', cur, e, _, _, hn, _⟩
    · subst e
      simp [Builtin.append_, run_underlying hu, sizeOf, typeInfo, hi, Builtin.lenOf, Builtin.firstCells]
    · subst e
      simp [Builtin.append_, run_underlying hu, sizeOf, typeInfo, hi, Builtin.lenOf, Builtin.firstCells, hn, storeCells]
  · have hcells : ∀ j u, (l.flatMap c5)[j]? = some u → w.cell? (ad.add j) = some u := fun j u hu => by
      have hl0 : l ≠ [] := fun e => by rw [e] at hu; simp at hu
      obtain ⟨⟨A', c', h1, _, _, h4⟩, _⟩ := id hl
      obtain ⟨g, off, e, _⟩ := h4 hl0
      injection h1 with e1
      rw [e] at e1
      obtain rfl := Option.some.inj e1
      exact row_cells hl j u hu
    obtain ⟨v', w', hr, h1, h2, h3⟩ := run_append_own (P := Tryz.prog) w B 58 ty 33 i0 (.agg #[.int .i64 0, .int .i64 0, .int .i64 0, .int .u64 0, .slice none 0 0]) 5 56 Tryz.underlying58 hi hz0 hz1 hz2 rfl (by decide) v _ _ hown ad l.length c (l.flatMap c5) (by rw [flat5_len]) hcells (row_one hl.2) (by simp only [maxLen]; omega) (by omega) hB
    have h1' : OwnR w' B v' (done ++ l) := by
      unfold OwnR
      rw [List.flatMap_append, List.length_append]
      exact h1
    refine ⟨v', w', hr, h1', (Below.refl _ _).grown h2 (by omega) (fun k hk => (World.ownsRow.lt hown k hk).1)⟩
theorem wp_rows {ops : Array Oper} {rest : List Oper} {o : Oper} {a : Act} {Q : Exit → Act → World → Prop} (w : World) (hgd : o.guard = none) (s x : Operand)
    (ho : o.op = .call { callee := .builtin .append, args := #[s, x], argTypes := #[58, 58] }) (B : Nat) (v : Value) (done l : List (Ins × Value)) (hs : a.eval s = v) (hown : OwnR w B v done)
    (A : Option Addr) (c : Nat) (hx : a.eval x = .slice A l.length c) (hl : InRow w (.slice A l.length c) l) (hlen : done.length + l.length ≤ 100000) (hB : B ≤ w.heap.size)
    (h : ∀ v' w', OwnR w' B v' (done ++ l) → Below B w w' → wpList Tryz.prog ops Q rest (a.put o.dst v') w') : wpList Tryz.prog ops Q (o :: rest) a w := by
  refine wpList_plain hgd fun K hK => ?_
  obtain ⟨v', w', hr, h1, h2⟩ := run_rows w o.type B v done l hown A c hl hlen hB
  unfold Oper.wp
  simp only [execOp, ho, resolve, invoke, builtin, Sem.run_bind, Sem.run_pure, Result.andThen_ok, List.map_toArray, List.map_cons, List.map_nil, hs, hx, hr]
  exact hK _ _ (h v' w' h1 h2)
end Go.Proofs.YtlappkflnlbfcaaGreatDoor.Bod
end
