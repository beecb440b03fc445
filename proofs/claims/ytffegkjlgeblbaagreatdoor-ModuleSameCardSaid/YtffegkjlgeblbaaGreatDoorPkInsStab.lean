/- InsFrame, InsRow, InsStab. -/
import Derived.Test.YtffegkjlgeblbaaGreatDoorPkInsPTabs
import Derived.Lib.SmallJoins
import Derived.ProofKit
import Derived.OpenShut
import Derived.Deep.Slices
import Derived.Test.YtffegkjlgeblbaaGreatDoorStabAll
import Derived.Test.YtffegkjlgeblbaaGreatDoorLebTwo
section
/- What came in, as the statements of layer 5 take it: an instruction. -/
namespace Go.Proofs.YtffegkjlgeblbaaGreatDoor.Ins
open Go.ChangeShapes Go.WideShapes Go.ChangeAt Go.RowKit Go.Joins Ints Typ
set_option maxRecDepth 100000
set_option maxHeartbeats 400000
set_option linter.unusedVariables false

theorem cellsI : Tryz.prog.cellsOf 67 = 5 := by kernel_rfl
theorem cInt : Tryz.prog.cellsOf 3 = 1 := by kernel_rfl
theorem cU64 : Tryz.prog.cellsOf 65 = 1 := by kernel_rfl
theorem cSl : Tryz.prog.cellsOf 26 = 1 := by kernel_rfl
section
variable {H : Type} {enc : TypeId × Value → H} {w : World} {base : Nat}
theorem rowi_of {n : Nat} {v : Value} {y : DataW H × List MemPlace} (h : DataW.trod enc Tryz.prog w base (fun _ => true) true n 26 [v] = some y) : ∃ (a : Option Addr) (l c : Nat) (zs : List Int), v = .slice a l c ∧ Leb.Came .i64 w a l c zs := by
  rcases open_ints Tryz.underlying26 Tryz.underlying3 (by kernel_rfl) h with ⟨hcs, _⟩ | ⟨x, l, c, zs, hcs, _, hl, hm, hz, _, hcell, hwz⟩
  · simp at hcs
    subst hcs
    exact ⟨none, 0, 0, [], rfl, .inl ⟨rfl, rfl, rfl, rfl⟩⟩
  · simp at hcs
    subst hcs
    exact ⟨some x, l, c, zs, rfl, .inr ⟨_, rfl, hl, hm, by simpa using hz, hcell, hwz⟩⟩
theorem rowb_of {n : Nat} {v : Value} {y : DataW H × List MemPlace} (h : DataW.trod enc Tryz.prog w base (fun _ => true) true n 22 [v] = some y) : ∃ (a : Option Addr) (l c : Nat) (zs : List Int), v = .slice a l c ∧ Leb.Came .u8 w a l c zs := by
  rcases open_ints Tryz.underlying22 Tryz.underlying5 (by kernel_rfl) h with ⟨hcs, _⟩ | ⟨x, l, c, zs, hcs, _, hl, hm, hz, _, hcell, hwz⟩
  · simp at hcs
    subst hcs
    exact ⟨none, 0, 0, [], rfl, .inl ⟨rfl, rfl, rfl, rfl⟩⟩
  · simp at hcs
    subst hcs
    exact ⟨some x, l, c, zs, rfl, .inr ⟨_, rfl, hl, hm, by simpa using hz, hcell, hwz⟩⟩
theorem in_cells {n : Nat} {c0 c1 c2 c3 c4 : Value} {y : DataW H × List MemPlace} (h : DataW.trod enc Tryz.prog w base (fun _ => true) true n 67 [c0, c1, c2, c3, c4] = some y) :
    ∃ (op A B K : Int) (a : Option Addr) (l c : Nat) (zs : List Int), c0 = .int .i64 op ∧ c1 = .int .i64 A ∧ c2 = .int .i64 B ∧ c3 = .int .u64 K ∧ c4 = .slice a l c ∧ (Lit.int .i64 op).wf = true ∧ (Lit.int .i64 A).wf = true ∧ (Lit.int .i64 B).wf = true ∧ (Lit.int .u64 K).wf = true ∧ Leb.Came .i64 w a l c zs := by
  obtain ⟨ys, m, _, _, _, hlen, hf⟩ := DataW.trod_struct Tryz.underlying67 h
  have h0 : DataW.trod enc Tryz.prog w base (fun _ => true) true m 3 (([c0, c1, c2, c3, c4].drop 0).take (Tryz.prog.cellsOf 3)) = ys[0]? := hf 0 _ rfl
  have h1 : DataW.trod enc Tryz.prog w base (fun _ => true) true m 3 (([c0, c1, c2, c3, c4].drop 1).take (Tryz.prog.cellsOf 3)) = ys[1]? := hf 1 _ rfl
  have h2 : DataW.trod enc Tryz.prog w base (fun _ => true) true m 3 (([c0, c1, c2, c3, c4].drop 2).take (Tryz.prog.cellsOf 3)) = ys[2]? := hf 2 _ rfl
  have h3 : DataW.trod enc Tryz.prog w base (fun _ => true) true m 65 (([c0, c1, c2, c3, c4].drop 3).take (Tryz.prog.cellsOf 65)) = ys[3]? := hf 3 _ rfl
  have h4 : DataW.trod enc Tryz.prog w base (fun _ => true) true m 26 (([c0, c1, c2, c3, c4].drop 4).take (Tryz.prog.cellsOf 26)) = ys[4]? := hf 4 _ rfl
  rw [cInt] at h0 h1 h2
  rw [cU64] at h3
  rw [cSl] at h4
  match ys, hlen with
  | [y0, y1, y2, y3, y4], _ =>
    obtain ⟨op, e0, _, w0⟩ := DataW.trod_int Tryz.underlying3 (x := y0) (by rw [h0]; rfl)
    obtain ⟨A, e1, _, w1⟩ := DataW.trod_int Tryz.underlying3 (x := y1) (by rw [h1]; rfl)
    obtain ⟨B, e2, _, w2⟩ := DataW.trod_int Tryz.underlying3 (x := y2) (by rw [h2]; rfl)
    obtain ⟨K, e3, _, w3⟩ := DataW.trod_int Tryz.underlying65 (x := y3) (by rw [h3]; rfl)
    obtain ⟨a, l, c, zs, e4, g4⟩ := rowi_of (v := c4) (y := y4) (by simpa using h4)
    simp at e0 e1 e2 e3
    exact ⟨op, A, B, K, a, l, c, zs, e0, e1, e2, e3, e4, w0, w1, w2, w3, g4⟩
end
end Go.Proofs.YtffegkjlgeblbaaGreatDoor.Ins
end

section
/- Instructions in a row, in memory: as they came in, and of the call's own. -/
namespace Go.Proofs.YtffegkjlgeblbaaGreatDoor.Ins
open Go.ChangeShapes Go.WideShapes Go.ChangeAt Go.RowKit Go.Joins Ints Typ
set_option maxRecDepth 100000
set_option maxHeartbeats 1000000
set_option linter.unusedVariables false

def InCells (w : World) (g o : Nat) (p : Ins × Value) : Prop :=
  w.cell? ⟨g, o, none⟩ = some (.int .i64 p.1.op) ∧ w.cell? ⟨g, o + 1, none⟩ = some (.int .i64 p.1.A) ∧ w.cell? ⟨g, o + 2, none⟩ = some (.int .i64 p.1.B) ∧ w.cell? ⟨g, o + 3, none⟩ = some (.int .u64 p.1.K) ∧ w.cell? ⟨g, o + 4, none⟩ = some p.2
theorem InCells.keep {w w' : World} {g o : Nat} {p : Ins × Value} (h : InCells w g o p) (hg : g < w.heap.size) (hb : Below w.heap.size w w') : InCells w' g o p := by
  have key : ∀ i, w'.cell? ⟨g, i, none⟩ = w.cell? ⟨g, i, none⟩ := fun i => hb.cell (p := ⟨g, i, none⟩) hg
  unfold InCells
  rw [key, key, key, key, key]
  exact h
def InOk (w : World) (p : Ins × Value) : Prop := SlI w p.2 p.1.L ∧ u64R p.1.K
theorem InOk.keep {w w' : World} {p : Ins × Value} (h : InOk w p) (hb : Below w.heap.size w w') : InOk w' p := ⟨h.1.keep hb, h.2⟩
def InRow (w : World) (v : Value) (l : List (Ins × Value)) : Prop :=
  (∃ A c, v = .slice A l.length c ∧ l.length ≤ c ∧ c ≤ 9223372036854775807 ∧ (l ≠ [] → ∃ g off, A = some ⟨g, off, none⟩ ∧ g < w.heap.size ∧ ∀ j p, l[j]? = some p → InCells w g (off + j * 5) p)) ∧ ∀ p ∈ l, InOk w p
theorem InRow.keep {w w' : World} {v : Value} {l : List (Ins × Value)} (h : InRow w v l) (hb : Below w.heap.size w w') : InRow w' v l := by
  obtain ⟨⟨A, c, h1, h2, h3, h4⟩, h5⟩ := h
  refine ⟨⟨A, c, h1, h2, h3, fun h0 => ?_⟩, fun p hp => (h5 p hp).keep hb⟩
  obtain ⟨g, off, e, hg, hB⟩ := h4 h0
  exact ⟨g, off, e, Nat.lt_of_lt_of_le hg hb.size, fun j p hp => (hB j p hp).keep hg hb⟩
theorem InRow.nil (w : World) : InRow w (.slice none 0 0) [] := ⟨⟨none, 0, rfl, Nat.le_refl _, by omega, fun h => absurd rfl h⟩, by simp⟩
theorem InRow.at_ {w : World} {A : Option Addr} {n c : Nat} {l : List (Ins × Value)} (h : InRow w (.slice A n c) l) {j : Nat} {p : Ins × Value} (hj : l[j]? = some p) : ∃ g off, A = some ⟨g, off, none⟩ ∧ InCells w g (off + j * 5) p ∧ InOk w p := by
  obtain ⟨⟨A', c', h1, h2, h3, h4⟩, h5⟩ := h
  obtain ⟨g, off, e, hg, hB⟩ := h4 (fun e => by rw [e] at hj; simp at hj)
  injection h1 with e1 e2 e3
  subst e1
  exact ⟨g, off, e, hB j p hj, h5 p (List.mem_of_getElem? hj)⟩
section
variable {H : Type} {enc : TypeId × Value → H} {w : World} {base : Nat}
theorem insrow_of {n : Nat} {v : Value} {y : DataW H × List MemPlace} (h : DataW.trod enc Tryz.prog w base (fun _ => true) true n 88 [v] = some y) : ∃ l, InRow w v l := by
  rcases Go.Deep.open_slice Tryz.underlying88 h with ⟨hcs, _⟩ | ⟨a, len, cap, m, k, D, Pl, hcs, hb, hl, hm, hmm, _, hx⟩
  · simp at hcs
    subst hcs
    exact ⟨[], InRow.nil w⟩
  · simp at hcs hmm
    subst hcs hmm
    have hsp : 0 < len → a.spot = none := fun h0 => by
      obtain ⟨cs', h1, h2⟩ := hx 0 (by omega)
      rw [cellsI] at h1
      obtain ⟨_, hlen, hcell⟩ := World.cells?_some h1
      match cs', hlen with
      | [c0, c1, c2, c3, c4], _ =>
        have f0 := hcell 0 (by decide)
        rw [Nat.zero_mul, show (a.add 0).add 0 = a from by unfold Addr.add; simp] at f0
        exact cell_spot (v := c0) f0
    have each : ∀ i, i < len → ∃ q : Ins × Value, InOk w q ∧ InCells w a.block (a.off + i * 5) q := by
      intro i hi
      have hsp := hsp (by omega)
      obtain ⟨cs', h1, h2⟩ := hx i (by omega)
      rw [cellsI] at h1
      obtain ⟨_, hlen, hcell⟩ := World.cells?_some h1
      match cs', hlen with
      | [c0, c1, c2, c3, c4], _ =>
        obtain ⟨op, X, B, K, a4, l4, k4, zs, rfl, rfl, rfl, rfl, rfl, w0, w1, w2, w3, g4⟩ := in_cells h2
        have f0 := hcell 0 (by decide)
        have f1 := hcell 1 (by decide)
        have f2 := hcell 2 (by decide)
        have f3 := hcell 3 (by decide)
        have f4 := hcell 4 (by decide)
        obtain ⟨g, off, sp⟩ := a
        simp only at hsp
        subst hsp
        simp only [Typ.add_plain] at f0 f1 f2 f3 f4
        refine ⟨(⟨op, X, B, K, zs.take l4⟩, .slice a4 l4 k4), ⟨came_slI g4, u64R_of w3⟩, ?_⟩
        exact ⟨by simpa using f0, by simpa using f1, by simpa using f2, by simpa using f3, by simpa using f4⟩
    let l : List (Ins × Value) := (List.range len).map fun i => if hi : i < len then (each i hi).choose else (⟨0, 0, 0, 0, []⟩, .slice none 0 0)
    have hlen : l.length = len := by simp [l]
    have hget : ∀ j p, l[j]? = some p → ∃ hj : j < len, p = (each j hj).choose := by
      intro j p hp
      have hj : j < len := by
        by_cases hh : j < len
        · exact hh
        · rw [List.getElem?_eq_none (by omega)] at hp; cases hp
      refine ⟨hj, ?_⟩
      simp only [l, List.getElem?_map, List.getElem?_range hj, Option.map_some, Option.some.injEq] at hp
      rw [dif_pos hj] at hp
      exact hp.symm
    refine ⟨l, ⟨some a, m, by rw [hlen], by omega, by unfold maxLen at hm; omega, fun h0 => ?_⟩, fun p hp => ?_⟩
    · have hpos : 0 < len := by
        rcases Nat.eq_zero_or_pos len with e | e
        · exact absurd (List.length_eq_zero_iff.1 (hlen.trans e)) h0
        · exact e
      have hs0 := hsp hpos
      have hc0 := (each 0 hpos).choose_spec.2.1
      refine ⟨a.block, a.off, by rw [← hs0], World.block_lt_of_cell? w ⟨a.block, a.off + 0 * 5, none⟩ hc0, fun j p hp => ?_⟩
      obtain ⟨hj, rfl⟩ := hget j p hp
      exact (each j hj).choose_spec.2
    · obtain ⟨j, hj⟩ := List.getElem?_of_mem hp
      obtain ⟨hj', rfl⟩ := hget j p hj
      exact (each j hj').choose_spec.1
end
def c5 (p : Ins × Value) : List Value := [.int .i64 p.1.op, .int .i64 p.1.A, .int .i64 p.1.B, .int .u64 p.1.K, p.2]
end Go.Proofs.YtffegkjlgeblbaaGreatDoor.Ins
end

section
/- A region that draws its order: what is not wanted; 'not'; comparisons. -/
namespace Go.Proofs.YtffegkjlgeblbaaGreatDoor.Stab
open Go.RowKit
set_option maxRecDepth 100000
set_option linter.unusedVariables false

def offB (ops : Array Oper) (a0 : Act) (env : List (Tmp × Sp)) (o : Oper) : Bool :=
  match o.guard with
  | none => false
  | some (g, b) =>
    match (ops[g]?).bind (·.dst) with
    | none => false
    | some d => match look a0 env d with
      | .is (.bool x) => x != b
      | _ => false
section
variable {P : Program} {ops : Array Oper} {w0 : World} {a0 : Act} {env : List (Tmp × Sp)} {o : Oper}
theorem unwant_of (hw : offB ops a0 env o = true) {A : Act} {w : World} (hA : ∀ t ∈ o.looksAt ops, (look a0 env t).holds (A.tmps.getD t undef) w) : ¬ Region.wanted o (yielded ops A.tmps) = true := by
  unfold Region.wanted
  unfold offB at hw
  cases hg : o.guard with
  | none => rw [hg] at hw; cases hw
  | some gb =>
    obtain ⟨g, b⟩ := gb
    rw [hg] at hw
    simp only at hw ⊢
    unfold yielded
    cases hd : (ops[g]?).bind (·.dst) with
    | none => rw [hd] at hw; cases hw
    | some d =>
      rw [hd] at hw
      simp only at hw
      have h := hA d (by simp [Oper.looksAt, hg, hd])
      cases hl : look a0 env d with
      | fits R => rw [hl] at hw; cases hw
      | is c =>
        rw [hl] at hw h
        cases c <;> try cases hw
        rename_i x
        have h2 : A.tmps.getD d undef = .bool x := h
        have hx : (x != b) = true := hw
        simp only [Option.bind_some]
        rw [Array.getD_eq_getD_getElem?] at h2
        cases hq : A.tmps[d]? with
        | none => rw [hq] at h2; cases h2
        | some v => rw [hq] at h2; simp at h2; subst h2; cases x <;> cases b <;> simp_all
theorem owes_off (hw : offB ops a0 env o = true) : Owes P ops w0 a0 env o (.is undef) := by
  intro A w hb hA
  unfold StepOk
  rw [if_neg (unwant_of hw hA)]
  rfl
theorem owes_not {t : TypeId} {x : Operand} {b : Bool} (ho : o.op = .unOp .not t x) (hx : evalS a0 env x = .is (.bool b)) (hr : ∀ w, (Op.unary .not (.bool b)).run P w = .ok (.bool !b) w) (hw : wantB ops a0 env o = true) : Owes P ops w0 a0 env o (.is (.bool !b)) :=
  owes_run hw fun ρ w _ hρ => by
    have h1 := hρ x (by simp [ho, Op.operands])
    rw [hx] at h1
    have h1 : ρ x = .bool b := h1
    simp only [execOp, ho, h1]
    rw [Sem.run_bind, hr w]
    exact ⟨Below.refl _ _, rfl⟩
end
theorem run_not {P : Program} (b : Bool) (W : World) : (Op.unary .not (.bool b)).run P W = .ok (.bool !b) W := by go_simp
theorem run_neE (x y : Operand) (a b : Int) (r : Bool) (h : (a != b) = r) (W : World) : (do eqGuard BinOp.neq 35 x y (.int .i64 a) (.int .i64 b); binOp BinOp.neq 35 (.int .i64 a) (.int .i64 b) : Sem Value).run Tryz.prog W = .ok (.bool r) W := by
  subst h; go_simp
theorem run_eqB (x y : Operand) (a b r : Bool) (h : (a == b) = r) (W : World) : (do eqGuard BinOp.eql 4 x y (.bool a) (.bool b); binOp BinOp.eql 4 (.bool a) (.bool b) : Sem Value).run Tryz.prog W = .ok (.bool r) W := by
  subst h
  cases a <;> cases b <;> go_simp
theorem run_neB (x y : Operand) (a b r : Bool) (h : (a != b) = r) (W : World) : (do eqGuard BinOp.neq 4 x y (.bool a) (.bool b); binOp BinOp.neq 4 (.bool a) (.bool b) : Sem Value).run Tryz.prog W = .ok (.bool r) W := by
  subst h
  cases a <;> cases b <;> go_simp
theorem run_eqS (x y : Operand) (s t : ByteArray) (r : Bool) (h : (s.toList == t.toList) = r) (W : World) : (do eqGuard BinOp.eql 9 x y (.string s) (.string t); binOp BinOp.eql 9 (.string s) (.string t) : Sem Value).run Tryz.prog W = .ok (.bool r) W := by
  subst h; go_simp
end Go.Proofs.YtffegkjlgeblbaaGreatDoor.Stab
end
