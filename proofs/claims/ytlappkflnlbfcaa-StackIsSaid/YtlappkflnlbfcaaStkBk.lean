/- What StackBack's regions read: loads, places, comparisons; a row's first. -/
import Derived.Test.YtlappkflnlbfcaaStkTheirs
namespace Go.Proofs.Ytlappkflnlbfcaa.Stab
open Go.RowKit
set_option maxRecDepth 100000
set_option linter.unusedVariables false
section
variable {P : Program} {ops : Array Oper} {w0 : World} {a0 : Act} {env : List (Tmp × Sp)} {o : Oper}
theorem owes_not {t : TypeId} {x : Operand} {b : Bool} (ho : o.op = .unOp .not t x) (hx : evalS a0 env x = .is (.bool b)) (hr : ∀ w, (Op.unary .not (.bool b)).run P w = .ok (.bool !b) w) (hw : wantB ops a0 env o = true) : Owes P ops w0 a0 env o (.is (.bool !b)) :=
  owes_run hw fun ρ w _ hρ => by
    have h1 := hρ x (by simp [ho, Op.operands])
    rw [hx] at h1
    have h1 : ρ x = .bool b := h1
    simp only [execOp, ho, h1]
    rw [Sem.run_bind, hr w]
    exact ⟨Below.refl _ _, rfl⟩
end
theorem run_not {P : Program} (b : Bool) (W : World) : (Op.unary .not (.bool b)).run P W = .ok (.bool !b) W := by go_simp
theorem run_lenB (A : Option Addr) (n c : Nat) (ty : TypeId) (W : World) : (Builtin.len_ #[22] ty #[.slice A n c]).run Try.prog W = .ok (.int .i64 (n : Int)) W := by go_simp
theorem run_eqE (x y : Operand) (a b : Int) (r : Bool) (h : (a == b) = r) (W : World) : (do eqGuard BinOp.eql 32 x y (.int .i64 a) (.int .i64 b); binOp BinOp.eql 32 (.int .i64 a) (.int .i64 b) : Sem Value).run Try.prog W = .ok (.bool r) W := by
  subst h; go_simp
theorem run_neE (x y : Operand) (a b : Int) (r : Bool) (h : (a != b) = r) (W : World) : (do eqGuard BinOp.neq 32 x y (.int .i64 a) (.int .i64 b); binOp BinOp.neq 32 (.int .i64 a) (.int .i64 b) : Sem Value).run Try.prog W = .ok (.bool r) W := by
  subst h; go_simp
theorem run_eqI (x y : Operand) (a b : Int) (r : Bool) (h : (a == b) = r) (W : World) : (do eqGuard BinOp.eql 3 x y (.int .i64 a) (.int .i64 b); binOp BinOp.eql 3 (.int .i64 a) (.int .i64 b) : Sem Value).run Try.prog W = .ok (.bool r) W := by
  subst h; go_simp
theorem run_eqS (x y : Operand) (s t : ByteArray) (r : Bool) (h : (s.toList == t.toList) = r) (W : World) : (do eqGuard BinOp.eql 9 x y (.string s) (.string t); binOp BinOp.eql 9 (.string s) (.string t) : Sem Value).run Try.prog W = .ok (.bool r) W := by
  subst h; go_simp
theorem run_cellI (x : Int) (g o : Nat) (W : World) (h : W.cell? ⟨g, o, none⟩ = some (.int .i64 x)) : (Instr.loadAt 3 (.pointer (some ⟨g, o, none⟩))).run Try.prog W = .ok (.int .i64 x) W := by go_simp
theorem run_cellT (x : Bool) (g o : Nat) (W : World) (h : W.cell? ⟨g, o, none⟩ = some (.bool x)) : (Instr.loadAt 4 (.pointer (some ⟨g, o, none⟩))).run Try.prog W = .ok (.bool x) W := by go_simp
theorem run_cellS (A : Option Addr) (n c g o : Nat) (W : World) (h : W.cell? ⟨g, o, none⟩ = some (.slice A n c)) : (Instr.loadAt 22 (.pointer (some ⟨g, o, none⟩))).run Try.prog W = .ok (.slice A n c) W := by go_simp
theorem run_fS0 (g : Nat) (W : World) : (Instr.fieldAt 30 (.pointer (some ⟨g, 0, none⟩)) 0).run Try.prog W = .ok (.pointer (some ⟨g, 0, none⟩)) W := by go_simp
theorem run_fC0 (g : Nat) (W : World) : (Instr.fieldAt 46 (.pointer (some ⟨g, 0, none⟩)) 0).run Try.prog W = .ok (.pointer (some ⟨g, 0, none⟩)) W := by go_simp
theorem run_fC1 (g : Nat) (W : World) : (Instr.fieldAt 46 (.pointer (some ⟨g, 0, none⟩)) 1).run Try.prog W = .ok (.pointer (some ⟨g, 1, none⟩)) W := by go_simp
theorem run_fC2 (g : Nat) (W : World) : (Instr.fieldAt 46 (.pointer (some ⟨g, 0, none⟩)) 2).run Try.prog W = .ok (.pointer (some ⟨g, 2, none⟩)) W := by go_simp
theorem run_fC3 (g : Nat) (W : World) : (Instr.fieldAt 46 (.pointer (some ⟨g, 0, none⟩)) 3).run Try.prog W = .ok (.pointer (some ⟨g, 3, none⟩)) W := by go_simp
end Go.Proofs.Ytlappkflnlbfcaa.Stab
namespace Go.Proofs.Ytlappkflnlbfcaa.Stk
open Go.RowKit Row9
set_option maxRecDepth 100000
set_option linter.unusedVariables false
theorem ld_stk {W : World} {x n c m d : Nat} {P Q : Option Addr} {t : TypeId} (h : W.heap[x]? = some (.cells #[.slice P n c, .slice Q m d] t (0, 0))) : (Instr.loadAt 30 (.pointer (some ⟨x, 0, none⟩))).run Try.prog W = .ok (.agg #[.slice P n c, .slice Q m d]) W := by
  obtain ⟨h0, h1⟩ := cells2 h
  go_simp
theorem blk {w W : World} {x : Nat} {o : Obj} (h : w.heap[x]? = some o) (hb : Below w.heap.size w W) : W.heap[x]? = some o := (hb.block x (lt_of_heap h)).trans h
theorem row_nil_new (w : World) : Row elB (w.alloc (.cells #[] 5)) (.slice (some ⟨w.heap.size, 0, none⟩) 0 0) [] := (own_new elB w).row (by simp)
theorem row_first {w : World} {A : Option Addr} {n c : Nat} {x : Int} {r : List Int} (h : Row elB w (.slice A n c) (x :: r)) : Row elB w (.slice A 1 c) [x] := by
  obtain ⟨⟨A', c', h1, h2, h3, h4⟩, h5⟩ := h
  injection h1 with e1 e2 e3
  subst e1 e3
  refine ⟨⟨A, c, rfl, ?_, h3, fun _ => ?_⟩, fun p hp => h5 p (by simp only [List.mem_singleton] at hp; simp [hp])⟩
  · simp only [List.length_cons] at h2
    simp only [List.length_cons, List.length_nil]
    omega
  · obtain ⟨g, off, e, hg, hB⟩ := h4 (by simp)
    refine ⟨g, off, e, hg, fun j p hj => ?_⟩
    cases j with
    | zero => exact hB 0 p (by simpa using hj)
    | succ j => simp at hj
end Go.Proofs.Ytlappkflnlbfcaa.Stk
