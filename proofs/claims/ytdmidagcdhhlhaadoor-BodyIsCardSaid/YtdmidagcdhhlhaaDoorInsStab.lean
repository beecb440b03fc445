/- A region that draws its order: what is not wanted; 'not'; comparisons. -/
import Derived.Test.YtdmidagcdhhlhaaDoorStabAll
import Derived.Test.YtdmidagcdhhlhaaDoorLebTwo
namespace Go.Proofs.YtdmidagcdhhlhaaDoor.Stab
open Go.RowKit
set_option maxRecDepth 100000
set_option linter.unusedVariables false

def offB (ops : Array Oper) (a0 : Act) (env : List (Tmp × Sp)) (o : Oper) : Bool :=
  match o.guard with
  | none => false
  | some (g, b) =>
    match (ops[g]?).bind (·.dst) with
    | none => false
    | some d => match look a0 env d with
      | .is (.bool x) => x != b
      | _ => false
section
variable {P : Program} {ops : Array Oper} {w0 : World} {a0 : Act} {env : List (Tmp × Sp)} {o : Oper}
theorem unwant_of (hw : offB ops a0 env o = true) {A : Act} {w : World} (hA : ∀ t ∈ o.looksAt ops, (look a0 env t).holds (A.tmps.getD t undef) w) : ¬ Region.wanted o (yielded ops A.tmps) = true := by
  unfold Region.wanted
  unfold offB at hw
  cases hg : o.guard with
  | none => rw [hg] at hw; cases hw
  | some gb =>
    obtain ⟨g, b⟩ := gb
    rw [hg] at hw
    simp only at hw ⊢
    unfold yielded
    cases hd : (ops[g]?).bind (·.dst) with
    | none => rw [hd] at hw; cases hw
    | some d =>
      rw [hd] at hw
      simp only at hw
      have h := hA d (by simp [Oper.looksAt, hg, hd])
      cases hl : look a0 env d with
      | fits R => rw [hl] at hw; cases hw
      | is c =>
        rw [hl] at hw h
        cases c <;> try cases hw
        rename_i x
        have h2 : A.tmps.getD d undef = .bool x := h
        have hx : (x != b) = true := hw
        simp only [Option.bind_some]
        rw [Array.getD_eq_getD_getElem?] at h2
        cases hq : A.tmps[d]? with
        | none => rw [hq] at h2; cases h2
        | some v => rw [hq] at h2; simp at h2; subst h2; cases x <;> cases b <;> simp_all
theorem owes_off (hw : offB ops a0 env o = true) : Owes P ops w0 a0 env o (.is undef) := by
  intro A w hb hA
  unfold StepOk
  rw [if_neg (unwant_of hw hA)]
  rfl
theorem owes_not {t : TypeId} {x : Operand} {b : Bool} (ho : o.op = .unOp .not t x) (hx : evalS a0 env x = .is (.bool b)) (hr : ∀ w, (Op.unary .not (.bool b)).run P w = .ok (.bool !b) w) (hw : wantB ops a0 env o = true) : Owes P ops w0 a0 env o (.is (.bool !b)) :=
  owes_run hw fun ρ w _ hρ => by
    have h1 := hρ x (by simp [ho, Op.operands])
    rw [hx] at h1
    have h1 : ρ x = .bool b := h1
    simp only [execOp, ho, h1]
    rw [Sem.run_bind, hr w]
    exact ⟨Below.refl _ _, rfl⟩
end
theorem run_not {P : Program} (b : Bool) (W : World) : (Op.unary .not (.bool b)).run P W = .ok (.bool !b) W := by go_simp
theorem run_lenB (A : Option Addr) (n c : Nat) (ty : TypeId) (W : World) : (Builtin.len_ #[23] ty #[.slice A n c]).run Tryd.prog W = .ok (.int .i64 (n : Int)) W := by go_simp
theorem run_eqE (x y : Operand) (a b : Int) (r : Bool) (h : (a == b) = r) (W : World) : (do eqGuard BinOp.eql 32 x y (.int .i64 a) (.int .i64 b); binOp BinOp.eql 32 (.int .i64 a) (.int .i64 b) : Sem Value).run Tryd.prog W = .ok (.bool r) W := by
  subst h; go_simp
theorem run_neE (x y : Operand) (a b : Int) (r : Bool) (h : (a != b) = r) (W : World) : (do eqGuard BinOp.neq 32 x y (.int .i64 a) (.int .i64 b); binOp BinOp.neq 32 (.int .i64 a) (.int .i64 b) : Sem Value).run Tryd.prog W = .ok (.bool r) W := by
  subst h; go_simp
theorem run_eqI (x y : Operand) (a b : Int) (r : Bool) (h : (a == b) = r) (W : World) : (do eqGuard BinOp.eql 3 x y (.int .i64 a) (.int .i64 b); binOp BinOp.eql 3 (.int .i64 a) (.int .i64 b) : Sem Value).run Tryd.prog W = .ok (.bool r) W := by
  subst h; go_simp
theorem run_neI (x y : Operand) (a b : Int) (r : Bool) (h : (a != b) = r) (W : World) : (do eqGuard BinOp.neq 3 x y (.int .i64 a) (.int .i64 b); binOp BinOp.neq 3 (.int .i64 a) (.int .i64 b) : Sem Value).run Tryd.prog W = .ok (.bool r) W := by
  subst h; go_simp
theorem run_leI (x y : Operand) (a b : Int) (r : Bool) (h : decide (a ≤ b) = r) (W : World) : (do eqGuard BinOp.leq 3 x y (.int .i64 a) (.int .i64 b); binOp BinOp.leq 3 (.int .i64 a) (.int .i64 b) : Sem Value).run Tryd.prog W = .ok (.bool r) W := by
  subst h; go_simp
theorem run_gtI (x y : Operand) (a b : Int) (r : Bool) (h : decide (b < a) = r) (W : World) : (do eqGuard BinOp.gtr 3 x y (.int .i64 a) (.int .i64 b); binOp BinOp.gtr 3 (.int .i64 a) (.int .i64 b) : Sem Value).run Tryd.prog W = .ok (.bool r) W := by
  subst h; go_simp
theorem run_eqB (x y : Operand) (a b r : Bool) (h : (a == b) = r) (W : World) : (do eqGuard BinOp.eql 4 x y (.bool a) (.bool b); binOp BinOp.eql 4 (.bool a) (.bool b) : Sem Value).run Tryd.prog W = .ok (.bool r) W := by
  subst h
  cases a <;> cases b <;> go_simp
theorem run_neB (x y : Operand) (a b r : Bool) (h : (a != b) = r) (W : World) : (do eqGuard BinOp.neq 4 x y (.bool a) (.bool b); binOp BinOp.neq 4 (.bool a) (.bool b) : Sem Value).run Tryd.prog W = .ok (.bool r) W := by
  subst h
  cases a <;> cases b <;> go_simp
theorem run_eqS (x y : Operand) (s t : ByteArray) (r : Bool) (h : (s.toList == t.toList) = r) (W : World) : (do eqGuard BinOp.eql 9 x y (.string s) (.string t); binOp BinOp.eql 9 (.string s) (.string t) : Sem Value).run Tryd.prog W = .ok (.bool r) W := by
  subst h; go_simp
theorem run_field0 (h : Nat) (W : World) : (Instr.fieldAt 50 (.pointer (some ⟨h, 0, none⟩)) 0).run Tryd.prog W = .ok (.pointer (some ⟨h, 0, none⟩)) W := by go_simp
theorem run_cvI (x : Int) (W : World) (h : IntKind.i64.wrap x = x) : (convert 5 3 (.int .u8 x)).run Tryd.prog W = .ok (.int .i64 x) W := by go_simp
theorem run_cell8 (x : Int) (g o : Nat) (W : World) (h : W.cell? ⟨g, o, none⟩ = some (.int .u8 x)) : (Instr.loadAt 5 (.pointer (some ⟨g, o, none⟩))).run Tryd.prog W = .ok (.int .u8 x) W := by go_simp
theorem run_cellI (x : Int) (g o : Nat) (W : World) (h : W.cell? ⟨g, o, none⟩ = some (.int .i64 x)) : (Instr.loadAt 3 (.pointer (some ⟨g, o, none⟩))).run Tryd.prog W = .ok (.int .i64 x) W := by go_simp
theorem run_at8 (g o n c : Nat) (W : World) (h : decide (0 < n) = true) : (Instr.indexAt 23 (.slice (some ⟨g, o, none⟩) n c) (.int .i64 0)).run Tryd.prog W = .ok (.pointer (some ⟨g, o, none⟩)) W := by
  have h : 0 < n := of_decide_eq_true h
  go_simp
end Go.Proofs.YtdmidagcdhhlhaaDoor.Stab
