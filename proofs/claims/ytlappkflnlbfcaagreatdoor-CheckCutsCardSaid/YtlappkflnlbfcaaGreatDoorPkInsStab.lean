/- InsRow, InsStab. -/
import Derived.Test.YtlappkflnlbfcaaGreatDoorPkInsFrame
import Derived.Deep.Slices
import Derived.Test.YtlappkflnlbfcaaGreatDoorPkStabAll
import Derived.Test.YtlappkflnlbfcaaGreatDoorPkLebTwo
section
/- Instructions in a row, in memory: as they came in, and of the call's own. -/
namespace Go.Proofs.YtlappkflnlbfcaaGreatDoor.Ins
open Go.ChangeShapes Go.WideShapes Go.ChangeAt Go.RowKit Go.Joins Ints Typ
set_option maxRecDepth 100000
set_option maxHeartbeats 1000000
set_option linter.unusedVariables false

/-- An instruction's five cells in memory. -/
def InCells (w : World) (g o : Nat) (p : Ins × Value) : Prop :=
  w.cell? ⟨g, o, none⟩ = some (.int .i64 p.1.op) ∧ w.cell? ⟨g, o + 1, none⟩ = some (.int .i64 p.1.A) ∧ w.cell? ⟨g, o + 2, none⟩ = some (.int .i64 p.1.B) ∧ w.cell? ⟨g, o + 3, none⟩ = some (.int .u64 p.1.K) ∧ w.cell? ⟨g, o + 4, none⟩ = some p.2
theorem InCells.keep {w w' : World} {g o : Nat} {p : Ins × Value} (h : InCells w g o p) (hg : g < w.heap.size) (hb : Below w.heap.size w w') : InCells w' g o p := by
  have key : ∀ i, w'.cell? ⟨g, i, none⟩ = w.cell? ⟨g, i, none⟩ := fun i => hb.cell (p := ⟨g, i, none⟩) hg
  unfold InCells
  rw [key, key, key, key, key]
  exact h
/-- What is asked of each. -/
def InOk (w : World) (p : Ins × Value) : Prop := SlI w p.2 p.1.L ∧ u64R p.1.K
theorem InOk.keep {w w' : World} {p : Ins × Value} (h : InOk w p) (hb : Below w.heap.size w w') : InOk w' p := ⟨h.1.keep hb, h.2⟩
/-- Instructions in a row. -/
def InRow (w : World) (v : Value) (l : List (Ins × Value)) : Prop :=
  (∃ A c, v = .slice A l.length c ∧ l.length ≤ c ∧ c ≤ 9223372036854775807 ∧ (l ≠ [] → ∃ g off, A = some ⟨g, off, none⟩ ∧ g < w.heap.size ∧ ∀ j p, l[j]? = some p → InCells w g (off + j * 5) p)) ∧ ∀ p ∈ l, InOk w p
theorem InRow.keep {w w' : World} {v : Value} {l : List (Ins × Value)} (h : InRow w v l) (hb : Below w.heap.size w w') : InRow w' v l := by
  obtain ⟨⟨A, c, h1, h2, h3, h4⟩, h5⟩ := h
  refine ⟨⟨A, c, h1, h2, h3, fun h0 => ?_⟩, fun p hp => (h5 p hp).keep hb⟩
  obtain ⟨g, off, e, hg, hB⟩ := h4 h0
  exact ⟨g, off, e, Nat.lt_of_lt_of_le hg hb.size, fun j p hp => (hB j p hp).keep hg hb⟩
theorem InRow.nil (w : World) : InRow w (.slice none 0 0) [] := ⟨⟨none, 0, rfl, Nat.le_refl _, by omega, fun h => absurd rfl h⟩, by simp⟩
theorem InRow.at_ {w : World} {A : Option Addr} {n c : Nat} {l : List (Ins × Value)} (h : InRow w (.slice A n c) l) {j : Nat} {p : Ins × Value} (hj : l[j]? = some p) : ∃ g off, A = some ⟨g, off, none⟩ ∧ InCells w g (off + j * 5) p ∧ InOk w p := by
  obtain ⟨⟨A', c', h1, h2, h3, h4⟩, h5⟩ := h
  obtain ⟨g, off, e, hg, hB⟩ := h4 (fun e => by rw [e] at hj; simp at hj)
  injection h1 with e1 e2 e3
  subst e1
  exact ⟨g, off, e, hB j p hj, h5 p (List.mem_of_getElem? hj)⟩
section
variable {H : Type} {enc : TypeId × Value → H} {w : World} {base : Nat}
theorem insrow_of {n : Nat} {v : Value} {y : DataW H × List MemPlace} (h : DataW.trod enc Tryz.prog w base (fun _ => true) true n 58 [v] = some y) : ∃ l, InRow w v l := by
  rcases Go.Deep.open_slice Tryz.underlying58 h with ⟨hcs, _⟩ | ⟨a, len, cap, m, k, D, Pl, hcs, hb, hl, hm, hmm, _, hx⟩
  · simp at hcs
    subst hcs
    exact ⟨[], InRow.nil w⟩
  · simp at hcs hmm
    subst hcs hmm
    have hsp : 0 < len → a.spot = none := fun h0 => by
      obtain ⟨cs', h1, h2⟩ := hx 0 (by omega)
      rw [cellsI] at h1
      obtain ⟨_, hlen, hcell⟩ := World.cells?_some h1
      match cs', hlen with
      | [c0, c1, c2, c3, c4], _ =>
        have f0 := hcell 0 (by decide)
        rw [Nat.zero_mul, show (a.add 0).add 0 = a from by unfold Addr.add; simp] at f0
        exact cell_spot (v := c0) f0
    have each : ∀ i, i < len → ∃ q : Ins × Value, InOk w q ∧ InCells w a.block (a.off + i * 5) q := by
      intro i hi
      have hsp := hsp (by omega)
      obtain ⟨cs', h1, h2⟩ := hx i (by omega)
      rw [cellsI] at h1
      obtain ⟨_, hlen, hcell⟩ := World.cells?_some h1
      match cs', hlen with
      | [c0, c1, c2, c3, c4], _ =>
        obtain ⟨op, X, B, K, a4, l4, k4, zs, rfl, rfl, rfl, rfl, rfl, w0, w1, w2, w3, g4⟩ := in_cells h2
        have f0 := hcell 0 (by decide)
        have f1 := hcell 1 (by decide)
        have f2 := hcell 2 (by decide)
        have f3 := hcell 3 (by decide)
        have f4 := hcell 4 (by decide)
        obtain ⟨g, off, sp⟩ := a
        simp only at hsp
        subst hsp
        simp only [Typ.add_plain] at f0 f1 f2 f3 f4
        refine ⟨(⟨op, X, B, K, zs.take l4⟩, .slice a4 l4 k4), ⟨came_slI g4, u64R_of w3⟩, ?_⟩
        exact ⟨by simpa using f0, by simpa using f1, by simpa using f2, by simpa using f3, by simpa using f4⟩
    let l : List (Ins × Value) := (List.range len).map fun i => if hi : i < len then (each i hi).choose else (⟨0, 0, 0, 0, []⟩, .slice none 0 0)
    have hlen : l.length = len := by simp [l]
    have hget : ∀ j p, l[j]? = some p → ∃ hj : j < len, p = (each j hj).choose := by
      intro j p hp
      have hj : j < len := by
        by_cases hh : j < len
        · exact hh
        · rw [List.getElem?_eq_none (by omega)] at hp; cases hp
      refine ⟨hj, ?_⟩
      simp only [l, List.getElem?_map, List.getElem?_range hj, Option.map_some, Option.some.injEq] at hp
      rw [dif_pos hj] at hp
      exact hp.symm
    refine ⟨l, ⟨some a, m, by rw [hlen], by omega, by unfold maxLen at hm; omega, fun h0 => ?_⟩, fun p hp => ?_⟩
    · have hpos : 0 < len := by
        rcases Nat.eq_zero_or_pos len with e | e
        · exact absurd (List.length_eq_zero_iff.1 (hlen.trans e)) h0
        · exact e
      have hs0 := hsp hpos
      have hc0 := (each 0 hpos).choose_spec.2.1
      refine ⟨a.block, a.off, by rw [← hs0], World.block_lt_of_cell? w ⟨a.block, a.off + 0 * 5, none⟩ hc0, fun j p hp => ?_⟩
      obtain ⟨hj, rfl⟩ := hget j p hp
      exact (each j hj).choose_spec.2
    · obtain ⟨j, hj⟩ := List.getElem?_of_mem hp
      obtain ⟨hj', rfl⟩ := hget j p hj
      exact (each j hj').choose_spec.1
theorem ins_of {r : Reach} {b0 : Nat} {v : Value} {d : DataW H} {p : List MemPlace} (hv : Value.okWide Tryz.prog w r b0 58 v) (h : DataW.Trod enc Tryz.prog w base (fun _ => true) true 58 v d p) : ∃ l, InRow w v l := by
  obtain ⟨a, l, c, rfl⟩ := okWide_slice Tryz.underlying58 hv
  obtain ⟨fuel, hf⟩ := h
  exact insrow_of hf
end
/-- An instruction's cells, as values. -/
def c5 (p : Ins × Value) : List Value := [.int .i64 p.1.op, .int .i64 p.1.A, .int .i64 p.1.B, .int .u64 p.1.K, p.2]
/-- Instructions in a row of the call's own. -/
def OwnR (w : World) (B : Nat) (v : Value) (l : List (Ins × Value)) : Prop := w.ownsRow B 33 5 v l.length (l.flatMap c5)
theorem ownR_nil (w : World) (B : Nat) : OwnR w B (.slice none 0 0) [] := ⟨rfl, .inl ⟨rfl, rfl⟩⟩
theorem OwnR.keep {w w' : World} {B : Nat} {v : Value} {l : List (Ins × Value)} (h : OwnR w B v l) (hb : Below w.heap.size w w') : OwnR w' B v l := by
  obtain ⟨h1, h2⟩ := h
  refine ⟨h1, ?_⟩
  rcases h2 with h2 | ⟨g, cap, cur, hv, hB, hc, hle, hm, hsz, ht⟩
  · exact .inl h2
  · refine .inr ⟨g, cap, cur, hv, hB, ?_, hle, hm, hsz, ht⟩
    rw [hb.block g (Array.getElem?_eq_some_iff.1 hc).1]
    exact hc
theorem flat5 : ∀ (l : List (Ins × Value)) (j i : Nat) (p : Ins × Value), l[j]? = some p → i < 5 → (l.flatMap c5)[j * 5 + i]? = (c5 p)[i]?
  | [], j, i, p, h, _ => by simp at h
  | q :: l, 0, i, p, h, hi => by
    simp at h
    subst h
    rw [List.flatMap_cons, Nat.zero_mul, Nat.zero_add, List.getElem?_append_left (by simp [c5]; omega)]
  | q :: l, j + 1, i, p, h, hi => by
    rw [List.getElem?_cons_succ] at h
    rw [List.flatMap_cons, List.getElem?_append_right (by simp [c5]; omega), show (j + 1) * 5 + i - (c5 q).length = j * 5 + i from by simp [c5]; omega]
    exact flat5 l j i p h hi
theorem OwnR.row {w : World} {B : Nat} {v : Value} {l : List (Ins × Value)} (h : OwnR w B v l) (hok : ∀ p ∈ l, InOk w p) : InRow w v l := by
  have h' := h
  obtain ⟨_, ⟨hv, hl⟩ | ⟨g, cap, cur, hv, hB, hc, hle, hm, hsz, ht⟩⟩ := h'
  · have : l = [] := List.length_eq_zero_iff.1 hl
    subst this
    subst hv
    exact InRow.nil w
  · refine ⟨⟨_, cap, hv, hle, by unfold maxLen at hm; omega, fun h0 => ⟨g, 0, rfl, (Array.getElem?_eq_some_iff.1 hc).1, fun j p hp => ?_⟩⟩, hok⟩
    have key : ∀ i u, i < 5 → (c5 p)[i]? = some u → w.cell? ⟨g, 0 + j * 5 + i, none⟩ = some u := by
      intro i u hi hu
      have e := World.ownsRow.cells h (g := g) (by subst hv; rfl) (j * 5 + i) u (by rw [flat5 l j i p hp hi]; exact hu)
      rw [Typ.add_plain] at e
      rw [show 0 + j * 5 + i = 0 + (j * 5 + i) from by omega]
      exact e
    exact ⟨key 0 _ (by decide) rfl, key 1 _ (by decide) rfl, key 2 _ (by decide) rfl, key 3 _ (by decide) rfl, key 4 _ (by decide) rfl⟩
theorem instr_info : (Tryz.prog.info? 33).map (fun i => (i.zero, i.size, i.bytes)) = some (some (.agg #[.int .i64 0, .int .i64 0, .int .i64 0, .int .u64 0, .slice none 0 0]), 5, 56) := by kernel_rfl
theorem OwnR.form {w : World} {B : Nat} {v : Value} {l : List (Ins × Value)} (h : OwnR w B v l) : ∃ P c, v = .slice P l.length c := by
  obtain ⟨_, ⟨hv, hl⟩ | ⟨g, cap, cur, hv, _⟩⟩ := h
  · exact ⟨none, 0, by rw [hv, hl]⟩
  · exact ⟨_, _, hv⟩
theorem new5 (w : World) (p : Ins × Value) : ∀ j u, (c5 p)[j]? = some u → (w.alloc (.cells #[.int .i64 p.1.op, .int .i64 p.1.A, .int .i64 p.1.B, .int .u64 p.1.K, p.2] 33)).cell? ((⟨w.heap.size, 0, none⟩ : Addr).add j) = some u := by
  intro j u hu
  rw [Typ.add_plain]
  rcases j with _ | _ | _ | _ | _ | j
  · simp [c5] at hu; subst hu; simp
  · simp [c5] at hu; subst hu; simp
  · simp [c5] at hu; subst hu; simp
  · simp [c5] at hu; subst hu; simp
  · simp [c5] at hu; subst hu; simp
  · simp [c5] at hu
/-- 'append(s, p)' on instructions of the call's own. -/
theorem wp_oneR {ops : Array Oper} {rest : List Oper} {o : Oper} {a : Act} {Q : Exit → Act → World → Prop} (w : World) (hgd : o.guard = none) (s x : Operand)
    (ho : o.op = .call { callee := .builtin .append, args := #[s, x], argTypes := #[58, 58] }) (B : Nat) (v : Value) (done : List (Ins × Value)) (p : Ins × Value) (hp : ∃ P n c, p.2 = .slice P n c) (hs : a.eval s = v) (hown : OwnR w B v done)
    (hx : a.eval x = .slice (some ⟨w.heap.size, 0, none⟩) 1 1) (hlen : done.length ≤ 100000) (hB : B ≤ w.heap.size)
    (h : ∀ v' w', OwnR w' B v' (done ++ [p]) → Below B w w' → (∀ k, k < w.heap.size → some k ≠ v.ownBlock → w'.heap[k]? = w.heap[k]?) → wpList Tryz.prog ops Q rest (a.put o.dst v') w') : wpList Tryz.prog ops Q (o :: rest) a (w.alloc (.cells #[.int .i64 p.1.op, .int .i64 p.1.A, .int .i64 p.1.B, .int .u64 p.1.K, p.2] 33)) := by
  obtain ⟨i0, hi, hz0, hz1, hz2⟩ := info_parts instr_info
  refine wpList_append_own _ hgd s x 58 ho B 33 i0 (.agg #[.int .i64 0, .int .i64 0, .int .i64 0, .int .u64 0, .slice none 0 0]) 5 56 Tryz.underlying58 hi hz0 hz1 hz2 rfl (by decide) v _ _ hs (World.ownsRow.alloc hown _) ⟨w.heap.size, 0, none⟩ 1 1 (c5 p) hx rfl (new5 w p) ?_ (by simp only [maxLen]; omega) (by omega) (by simp; omega) ?_
  · obtain ⟨P, n, c, e⟩ := hp
    intro u hu
    simp only [c5, e, List.mem_cons, List.not_mem_nil, or_false] at hu
    rcases hu with rfl | rfl | rfl | rfl | rfl <;> rfl
  · intro v' w' ho' hg hn
    refine h v' w' ?_ (((Below.refl _ _).alloc hB _).grown hg (by simp; omega) (fun k hk => (World.ownsRow.lt hown k hk).1)) (fun k hk hne => (hg.block k (by simp; omega) hne).trans (((Below.refl w.heap.size w).alloc (Nat.le_refl _) _).block k hk))
    have ho2 : w'.ownsRow B 33 5 v' (done ++ [p]).length ((done ++ [p]).flatMap c5) := by
      rw [List.flatMap_append, List.length_append]
      simpa using ho'
    exact ho2
/-- Bytes of the call's own stay where they are when a row of instructions grows. -/
theorem OwnB.apart {w w' : World} {B B' : Nat} {v r : Value} {l : List Int} {lr : List (Ins × Value)} (h : OwnB w B v l) (hr : OwnR w B' r lr) (hk : ∀ k, k < w.heap.size → some k ≠ r.ownBlock → w'.heap[k]? = w.heap[k]?) : OwnB w' B v l := by
  obtain ⟨h1, h2⟩ := h
  refine ⟨h1, ?_⟩
  rcases h2 with h2 | ⟨g, cap, cur, hv, hB, hc, hle, hm, hsz, ht⟩
  · exact .inl h2
  · refine .inr ⟨g, cap, cur, hv, hB, ?_, hle, hm, hsz, ht⟩
    rw [hk g (Array.getElem?_eq_some_iff.1 hc).1 ?_]
    · exact hc
    · obtain ⟨_, ⟨hv2, _⟩ | ⟨g2, cap2, cur2, hv2, _, hc2, _⟩⟩ := hr
      · subst hv2
        simp [Value.ownBlock]
      · subst hv2
        intro e
        have e : g = g2 := by simpa [Value.ownBlock] using e
        subst e
        rw [hc] at hc2
        simp at hc2
end Go.Proofs.YtlappkflnlbfcaaGreatDoor.Ins
end

section
/- A region that draws its order: what is not wanted; 'not'; comparisons. -/
namespace Go.Proofs.YtlappkflnlbfcaaGreatDoor.Stab
open Go.RowKit
set_option maxRecDepth 100000
set_option linter.unusedVariables false

def offB (ops : Array Oper) (a0 : Act) (env : List (Tmp × Sp)) (o : Oper) : Bool :=
  match o.guard with
  | none => false
  | some (g, b) =>
    match (ops[g]?).bind (·.dst) with
    | none => false
    | some d => match look a0 env d with
      | .is (.bool x) => x != b
      | _ => false
section
variable {P : Program} {ops : Array Oper} {w0 : World} {a0 : Act} {env : List (Tmp × Sp)} {o : Oper}
theorem unwant_of (hw : offB ops a0 env o = true) {A : Act} {w : World} (hA : ∀ t ∈ o.looksAt ops, (look a0 env t).holds (A.tmps.getD t undef) w) : ¬ Region.wanted o (yielded ops A.tmps) = true := by
  unfold Region.wanted
  unfold offB at hw
  cases hg : o.guard with
  | none => rw [hg] at hw; cases hw
  | some gb =>
    obtain ⟨g, b⟩ := gb
    rw [hg] at hw
    simp only at hw ⊢
    unfold yielded
    cases hd : (ops[g]?).bind (·.dst) with
    | none => rw [hd] at hw; cases hw
    | some d =>
      rw [hd] at hw
      simp only at hw
      have h := hA d (by simp [Oper.looksAt, hg, hd])
      cases hl : look a0 env d with
      | fits R => rw [hl] at hw; cases hw
      | is c =>
        rw [hl] at hw h
        cases c <;> try cases hw
        rename_i x
        have h2 : A.tmps.getD d undef = .bool x := h
        have hx : (x != b) = true := hw
        simp only [Option.bind_some]
        rw [Array.getD_eq_getD_getElem?] at h2
        cases hq : A.tmps[d]? with
        | none => rw [hq] at h2; cases h2
        | some v => rw [hq] at h2; simp at h2; subst h2; cases x <;> cases b <;> simp_all
theorem owes_off (hw : offB ops a0 env o = true) : Owes P ops w0 a0 env o (.is undef) := by
  intro A w hb hA
  unfold StepOk
  rw [if_neg (unwant_of hw hA)]
  rfl
theorem owes_not {t : TypeId} {x : Operand} {b : Bool} (ho : o.op = .unOp .not t x) (hx : evalS a0 env x = .is (.bool b)) (hr : ∀ w, (Op.unary .not (.bool b)).run P w = .ok (.bool !b) w) (hw : wantB ops a0 env o = true) : Owes P ops w0 a0 env o (.is (.bool !b)) :=
  owes_run hw fun ρ w _ hρ => by
    have h1 := hρ x (by simp [ho, Op.operands])
    rw [hx] at h1
    have h1 : ρ x = .bool b := h1
    simp only [execOp, ho, h1]
    rw [Sem.run_bind, hr w]
    exact ⟨Below.refl _ _, rfl⟩
end
theorem run_not {P : Program} (b : Bool) (W : World) : (Op.unary .not (.bool b)).run P W = .ok (.bool !b) W := by go_simp
theorem run_lenB (A : Option Addr) (n c : Nat) (ty : TypeId) (W : World) : (Builtin.len_ #[25] ty #[.slice A n c]).run Tryz.prog W = .ok (.int .i64 (n : Int)) W := by go_simp
theorem run_eqE (x y : Operand) (a b : Int) (r : Bool) (h : (a == b) = r) (W : World) : (do eqGuard BinOp.eql 40 x y (.int .i64 a) (.int .i64 b); binOp BinOp.eql 40 (.int .i64 a) (.int .i64 b) : Sem Value).run Tryz.prog W = .ok (.bool r) W := by
  subst h; go_simp
theorem run_neE (x y : Operand) (a b : Int) (r : Bool) (h : (a != b) = r) (W : World) : (do eqGuard BinOp.neq 40 x y (.int .i64 a) (.int .i64 b); binOp BinOp.neq 40 (.int .i64 a) (.int .i64 b) : Sem Value).run Tryz.prog W = .ok (.bool r) W := by
  subst h; go_simp
theorem run_eqI (x y : Operand) (a b : Int) (r : Bool) (h : (a == b) = r) (W : World) : (do eqGuard BinOp.eql 3 x y (.int .i64 a) (.int .i64 b); binOp BinOp.eql 3 (.int .i64 a) (.int .i64 b) : Sem Value).run Tryz.prog W = .ok (.bool r) W := by
  subst h; go_simp
theorem run_neI (x y : Operand) (a b : Int) (r : Bool) (h : (a != b) = r) (W : World) : (do eqGuard BinOp.neq 3 x y (.int .i64 a) (.int .i64 b); binOp BinOp.neq 3 (.int .i64 a) (.int .i64 b) : Sem Value).run Tryz.prog W = .ok (.bool r) W := by
  subst h; go_simp
theorem run_leI (x y : Operand) (a b : Int) (r : Bool) (h : decide (a ≤ b) = r) (W : World) : (do eqGuard BinOp.leq 3 x y (.int .i64 a) (.int .i64 b); binOp BinOp.leq 3 (.int .i64 a) (.int .i64 b) : Sem Value).run Tryz.prog W = .ok (.bool r) W := by
  subst h; go_simp
theorem run_gtI (x y : Operand) (a b : Int) (r : Bool) (h : decide (b < a) = r) (W : World) : (do eqGuard BinOp.gtr 3 x y (.int .i64 a) (.int .i64 b); binOp BinOp.gtr 3 (.int .i64 a) (.int .i64 b) : Sem Value).run Tryz.prog W = .ok (.bool r) W := by
  subst h; go_simp
theorem run_eqB (x y : Operand) (a b r : Bool) (h : (a == b) = r) (W : World) : (do eqGuard BinOp.eql 4 x y (.bool a) (.bool b); binOp BinOp.eql 4 (.bool a) (.bool b) : Sem Value).run Tryz.prog W = .ok (.bool r) W := by
  subst h
  cases a <;> cases b <;> go_simp
theorem run_neB (x y : Operand) (a b r : Bool) (h : (a != b) = r) (W : World) : (do eqGuard BinOp.neq 4 x y (.bool a) (.bool b); binOp BinOp.neq 4 (.bool a) (.bool b) : Sem Value).run Tryz.prog W = .ok (.bool r) W := by
  subst h
  cases a <;> cases b <;> go_simp
theorem run_eqS (x y : Operand) (s t : ByteArray) (r : Bool) (h : (s.toList == t.toList) = r) (W : World) : (do eqGuard BinOp.eql 9 x y (.string s) (.string t); binOp BinOp.eql 9 (.string s) (.string t) : Sem Value).run Tryz.prog W = .ok (.bool r) W := by
  subst h; go_simp
theorem run_field0 (h : Nat) (W : World) : (Instr.fieldAt 33 (.pointer (some ⟨h, 0, none⟩)) 0).run Tryz.prog W = .ok (.pointer (some ⟨h, 0, none⟩)) W := by go_simp
theorem run_cvI (x : Int) (W : World) (h : IntKind.i64.wrap x = x) : (convert 5 3 (.int .u8 x)).run Tryz.prog W = .ok (.int .i64 x) W := by go_simp
theorem run_cell8 (x : Int) (g o : Nat) (W : World) (h : W.cell? ⟨g, o, none⟩ = some (.int .u8 x)) : (Instr.loadAt 5 (.pointer (some ⟨g, o, none⟩))).run Tryz.prog W = .ok (.int .u8 x) W := by go_simp
theorem run_cellI (x : Int) (g o : Nat) (W : World) (h : W.cell? ⟨g, o, none⟩ = some (.int .i64 x)) : (Instr.loadAt 3 (.pointer (some ⟨g, o, none⟩))).run Tryz.prog W = .ok (.int .i64 x) W := by go_simp
theorem run_at8 (g o n c : Nat) (W : World) (h : decide (0 < n) = true) : (Instr.indexAt 25 (.slice (some ⟨g, o, none⟩) n c) (.int .i64 0)).run Tryz.prog W = .ok (.pointer (some ⟨g, o, none⟩)) W := by
  have h : 0 < n := of_decide_eq_true h
  go_simp
end Go.Proofs.YtlappkflnlbfcaaGreatDoor.Stab
end
