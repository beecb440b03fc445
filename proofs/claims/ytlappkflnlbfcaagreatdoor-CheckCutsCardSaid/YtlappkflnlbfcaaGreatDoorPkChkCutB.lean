/- Operations of a region that draws its order, as CheckCuts has them. -/
import Derived.Test.YtlappkflnlbfcaaGreatDoorPkChkEnvC
import Derived.Test.YtlappkflnlbfcaaGreatDoorPkInsStab
import Derived.Test.YtlappkflnlbfcaaGreatDoorPkStkRKill
namespace Go.Proofs.YtlappkflnlbfcaaGreatDoor.Chk
open Go.RowKit Row9 Stk
set_option maxRecDepth 100000
set_option maxHeartbeats 1000000
set_option linter.unusedVariables false
section
open Stab
variable {P : Program} {ops : Array Oper} {w0 : World} {a0 : Act} {env : List (Tmp × Sp)} {o : Oper}
/-- A part of several results that are known only in part. -/
theorem owes_extF {x : Operand} {i : Nat} {R R' : Value → World → Prop} (ho : o.op = .extract x i) (hx : evalS a0 env x = .fits R) (hr : ∀ v W, R v W → ∃ c, (Instr.extract v i).run P W = .ok c W ∧ R' c W) (hw : wantB ops a0 env o = true) : Owes P ops w0 a0 env o (.fits R') :=
  owes_run hw fun ρ w _ hρ => by
    have h1 := hρ x (by simp [ho, Op.operands])
    rw [hx] at h1
    have h1 : R (ρ x) w := h1
    obtain ⟨c, h2, h3⟩ := hr _ _ h1
    simp only [execOp, ho, Sem.run_bind]
    rw [h2]
    exact ⟨Below.refl _ _, h3⟩
theorem owes_extI {x : Operand} {i : Nat} {R : Value → World → Prop} {c : Value} (ho : o.op = .extract x i) (hx : evalS a0 env x = .fits R) (hr : ∀ v W, R v W → (Instr.extract v i).run P W = .ok c W) (hw : wantB ops a0 env o = true) : Owes P ops w0 a0 env o (.is c) :=
  owes_run hw fun ρ w _ hρ => by
    have h1 := hρ x (by simp [ho, Op.operands])
    rw [hx] at h1
    have h1 : R (ρ x) w := h1
    simp only [execOp, ho, Sem.run_bind]
    rw [hr _ _ h1]
    exact ⟨Below.refl _ _, rfl⟩
end
theorem run_ext0 {P : Program} {a b : Value} (W : World) : (Instr.extract (.tuple #[a, b]) 0).run P W = .ok a W := by go_simp
theorem run_ext1 {P : Program} {a b : Value} (W : World) : (Instr.extract (.tuple #[a, b]) 1).run P W = .ok b W := by go_simp
theorem run_idxSt {g o n c k q : Nat} (W : World) (h : k < n) (hq : o + k * 2 = q) : (Instr.indexAt 60 (.slice (some ⟨g, o, none⟩) n c) (.int .i64 (k : Int))).run Tryz.prog W = .ok (.pointer (some ⟨g, q, none⟩)) W := by
  have h1 : (0 : Int) ≤ (k : Int) := by omega
  have h2 : (k : Int) < (n : Int) := by omega
  go_simp
theorem run_idxSt1 {g o n c k q : Nat} (W : World) (h : k + 1 < n) (hq : o + (k + 1) * 2 = q) : (Instr.indexAt 60 (.slice (some ⟨g, o, none⟩) n c) (.int .i64 ((k : Int) + 1))).run Tryz.prog W = .ok (.pointer (some ⟨g, q, none⟩)) W := by
  have := run_idxSt (g := g) (c := c) W h hq
  rw [show ((k + 1 : Nat) : Int) = (k : Int) + 1 by omega] at this
  exact this
theorem run_idxIn {g o n c k q : Nat} (W : World) (h : k < n) (hq : o + k * 5 = q) : (Instr.indexAt 58 (.slice (some ⟨g, o, none⟩) n c) (.int .i64 (k : Int))).run Tryz.prog W = .ok (.pointer (some ⟨g, q, none⟩)) W := by
  have h1 : (0 : Int) ≤ (k : Int) := by omega
  have h2 : (k : Int) < (n : Int) := by omega
  go_simp
theorem run_fSt0 (g q : Nat) (W : World) : (Instr.fieldAt 39 (.pointer (some ⟨g, q, none⟩)) 0).run Tryz.prog W = .ok (.pointer (some ⟨g, q, none⟩)) W := by go_simp
theorem run_fSt1 (g q : Nat) (W : World) : (Instr.fieldAt 39 (.pointer (some ⟨g, q, none⟩)) 1).run Tryz.prog W = .ok (.pointer (some ⟨g, q + 1, none⟩)) W := by go_simp
theorem run_ldCt (A : Option Addr) (n c g o : Nat) (W : World) (h : W.cell? ⟨g, o, none⟩ = some (.slice A n c)) : (Instr.loadAt 37 (.pointer (some ⟨g, o, none⟩))).run Tryz.prog W = .ok (.slice A n c) W := by go_simp
theorem run_ldBy {A : Option Addr} {n c g o : Nat} {W : World} (h : W.cell? ⟨g, o, none⟩ = some (.slice A n c)) : (Instr.loadAt 25 (.pointer (some ⟨g, o, none⟩))).run Tryz.prog W = .ok (.slice A n c) W := by go_simp
theorem run_ldSt {a b : Value} {g q : Nat} {W : World} (h0 : W.cell? ⟨g, q, none⟩ = some a) (h1 : W.cell? ⟨g, q + 1, none⟩ = some b) : (Instr.loadAt 39 (.pointer (some ⟨g, q, none⟩))).run Tryz.prog W = .ok (.agg #[a, b]) W := by go_simp
theorem run_ldIn {a b c d e : Value} {g q : Nat} {W : World} (h0 : W.cell? ⟨g, q, none⟩ = some a) (h1 : W.cell? ⟨g, q + 1, none⟩ = some b) (h2 : W.cell? ⟨g, q + 2, none⟩ = some c) (h3 : W.cell? ⟨g, q + 3, none⟩ = some d) (h4 : W.cell? ⟨g, q + 4, none⟩ = some e) : (Instr.loadAt 33 (.pointer (some ⟨g, q, none⟩))).run Tryz.prog W = .ok (.agg #[a, b, c, d, e]) W := by go_simp
theorem run_ldEn {a b c d e f g : Value} {x : Nat} {W : World} (h : W.heap[x]? = some (.cells #[a, b, c, d, e, f, g] 27 (0, 0))) : (Instr.loadAt 27 (.pointer (some ⟨x, 0, none⟩))).run Tryz.prog W = .ok (.agg #[a, b, c, d, e, f, g]) W := by
  obtain ⟨a0, a1, a2, a3, a4, a5, a6⟩ := cells7b h
  go_simp
theorem run_lenSt (A : Option Addr) (n c : Nat) (ty : TypeId) (W : World) : (Builtin.len_ #[60] ty #[.slice A n c]).run Tryz.prog W = .ok (.int .i64 (n : Int)) W := by go_simp
theorem run_lenCt (A : Option Addr) (n c : Nat) (ty : TypeId) (W : World) : (Builtin.len_ #[37] ty #[.slice A n c]).run Tryz.prog W = .ok (.int .i64 (n : Int)) W := by go_simp
theorem run_addK (x y : Operand) (k : Nat) (W : World) (h : IntKind.i64.wrap ((k : Int) + 1) = (k : Int) + 1) : (do eqGuard BinOp.add 3 x y (.int .i64 (k : Int)) (.int .i64 1); binOp BinOp.add 3 (.int .i64 (k : Int)) (.int .i64 1) : Sem Value).run Tryz.prog W = .ok (.int .i64 ((k : Int) + 1)) W := by go_simp
theorem run_neSS (x y : Operand) (s : ByteArray) (W : World) : (do eqGuard BinOp.neq 9 x y (.string s) (.string s); binOp BinOp.neq 9 (.string s) (.string s) : Sem Value).run Tryz.prog W = .ok (.bool false) W := by go_simp
theorem run_eqSS (x y : Operand) (s : ByteArray) (W : World) : (do eqGuard BinOp.eql 9 x y (.string s) (.string s); binOp BinOp.eql 9 (.string s) (.string s) : Sem Value).run Tryz.prog W = .ok (.bool true) W := by go_simp
theorem run_slIn (A : Option Addr) (n c k : Nat) (W : World) (h : k ≤ c) : (Instr.sliceAt 58 (.slice A n c) none (some (.int .i64 (k : Int))) none).run Tryz.prog W = .ok (.slice A k c) W := by
  have h1 : (0 : Int) ≤ (k : Int) := by omega
  have h2 : (k : Int) ≤ (c : Int) := by omega
  go_simp
end Go.Proofs.YtlappkflnlbfcaaGreatDoor.Chk
