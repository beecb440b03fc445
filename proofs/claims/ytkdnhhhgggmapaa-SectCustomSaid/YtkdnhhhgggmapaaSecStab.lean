/- What SectCustom's last region asks: loads, addresses, comparisons. -/
import Derived.Test.YtkdnhhhgggmapaaSecCus
namespace Go.Proofs.Ytkdnhhhgggmapaa.Sec
open Go.RowKit Utf
set_option maxRecDepth 100000
set_option maxHeartbeats 400000
set_option linter.unusedVariables false
theorem rn_eqI (x y : Operand) (a b : Int) (r : Bool) (h : (a == b) = r) (W : World) : (do eqGuard BinOp.eql 3 x y (.int .i64 a) (.int .i64 b); binOp BinOp.eql 3 (.int .i64 a) (.int .i64 b) : Sem Value).run Try.prog W = .ok (.bool r) W := by
  subst h; go_simp
theorem rn_eqS (x y : Operand) (s t : ByteArray) (r : Bool) (h : (s.toList == t.toList) = r) (W : World) : (do eqGuard BinOp.eql 9 x y (.string s) (.string t); binOp BinOp.eql 9 (.string s) (.string t) : Sem Value).run Try.prog W = .ok (.bool r) W := by
  subst h; go_simp
theorem rn_field (h o : Nat) (W : World) : (Instr.fieldAt 40 (.pointer (some ⟨h, o, none⟩)) 0).run Try.prog W = .ok (.pointer (some ⟨h, o, none⟩)) W := by go_simp
theorem rn_field1 (h o : Nat) (W : World) : (Instr.fieldAt 40 (.pointer (some ⟨h, o, none⟩)) 1).run Try.prog W = .ok (.pointer (some ⟨h, o + 1, none⟩)) W := by go_simp
theorem rn_cellI (x : Int) (g o : Nat) (W : World) (h : W.cell? ⟨g, o, none⟩ = some (.int .i64 x)) : (Instr.loadAt 3 (.pointer (some ⟨g, o, none⟩))).run Try.prog W = .ok (.int .i64 x) W := by go_simp
theorem rn_cellS (P : Option Addr) (n c g o : Nat) (W : World) (h : W.cell? ⟨g, o, none⟩ = some (.slice P n c)) : (Instr.loadAt 22 (.pointer (some ⟨g, o, none⟩))).run Try.prog W = .ok (.slice P n c) W := by go_simp
theorem rn_at (g o n c k : Nat) (W : World) (h : k < n) : (Instr.indexAt 26 (.slice (some ⟨g, o, none⟩) n c) (.int .i64 (k : Int))).run Try.prog W = .ok (.pointer (some ⟨g, o + k * 2, none⟩)) W := by
  have h1 : (k : Int) < (n : Int) := by omega
  have h2 : (0 : Int) ≤ (k : Int) := by omega
  go_simp
/-- A row that stays. -/
def RowIs (n : Nat) (l : List (Sct × Value)) (v : Value) (w : World) : Prop := ∃ P c, v = .slice P n c ∧ ScRow w (.slice P n c) l
theorem rowIs_stays (n : Nat) (l : List (Sct × Value)) : Stab.Stays (RowIs n l) := fun v w w' ⟨P, c, e, h⟩ hb => ⟨P, c, e, h.keep hb⟩
end Go.Proofs.Ytkdnhhhgggmapaa.Sec
