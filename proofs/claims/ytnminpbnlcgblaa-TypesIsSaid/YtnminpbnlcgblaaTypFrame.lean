/- What came in, as the statements of layer 4 take it: limits, a function's type. -/
import Derived.Test.YtnminpbnlcgblaaTypAwake
import Derived.Test.YtnminpbnlcgblaaTypWith2
import Derived.Lib.SmallJoins
import Derived.ProofKit
import Derived.OpenShut
namespace Go.Proofs.Ytnminpbnlcgblaa.Typ
open Go.ChangeShapes Go.WideShapes Go.ChangeAt Go.RowKit Go.Joins
set_option maxRecDepth 100000
set_option maxHeartbeats 400000

section
variable {H : Type} {enc : TypeId × Value → H} {w : World} {base : Nat} {spare : Nat → Bool} {held : Bool}
theorem cellsL : Try.prog.cellsOf 26 = 3 := by kernel_rfl
theorem cellsF : Try.prog.cellsOf 24 = 2 := by kernel_rfl
theorem lim_of {r : Reach} {b0 : Nat} {v : Value} {d : DataW H} {p : List MemPlace} (hv : Value.okWide Try.prog w r b0 26 v) (h : DataW.Trod enc Try.prog w base spare held 26 v d p) :
    ∃ (a b : Int) (x : Bool), v = lv a b x ∧ (Lit.int .i64 a).wf = true ∧ (Lit.int .i64 b).wf = true := by
  obtain ⟨c0, c1, c2, y0, y1, y2, n, rfl, _, _, h0, h1, h2⟩ := open_agg3 Try.underlying26 (by kernel_rfl) cellsL hv h
  obtain ⟨a, e0, _, wa⟩ := DataW.trod_int Try.underlying3 h0
  obtain ⟨b, e1, _, wb⟩ := DataW.trod_int Try.underlying3 h1
  obtain ⟨x, e2, _⟩ := DataW.trod_bool Try.underlying4 h2
  simp at e0 e1 e2
  subst e0 e1 e2
  exact ⟨a, b, x, rfl, wa, wb⟩
theorem row_of {n : Nat} {v : Value} {y : DataW H × List MemPlace} (h : DataW.trod enc Try.prog w base (fun _ => true) true n 22 [v] = some y) : ∃ (a : Option Addr) (l c : Nat) (zs : List Int), v = .slice a l c ∧ Leb.Came .u8 w a l c zs := by
  rcases open_ints Try.underlying22 Try.underlying5 (by kernel_rfl) h with ⟨hcs, _⟩ | ⟨x, l, c, zs, hcs, _, hl, hm, hz, _, hcell, hwz⟩
  · simp at hcs
    subst hcs
    exact ⟨none, 0, 0, [], rfl, .inl ⟨rfl, rfl, rfl, rfl⟩⟩
  · simp at hcs
    subst hcs
    exact ⟨some x, l, c, zs, rfl, .inr ⟨_, rfl, hl, hm, by simpa using hz, hcell, hwz⟩⟩
theorem ft_of {r : Reach} {b0 : Nat} {v : Value} {d : DataW H} {p : List MemPlace} (hv : Value.okWide Try.prog w r b0 24 v) (h : DataW.Trod enc Try.prog w base (fun _ => true) true 24 v d p) :
    ∃ (a1 a2 : Option Addr) (l1 l2 c1 c2 : Nat) (z1 z2 : List Int), v = .agg #[.slice a1 l1 c1, .slice a2 l2 c2] ∧ Leb.Came .u8 w a1 l1 c1 z1 ∧ Leb.Came .u8 w a2 l2 c2 z2 := by
  obtain ⟨c0, c1, y0, y1, n, rfl, _, _, h0, h1⟩ := open_agg2 Try.underlying24 (by kernel_rfl) cellsF hv h
  obtain ⟨a1, l1, k1, z1, rfl, g1⟩ := row_of h0
  obtain ⟨a2, l2, k2, z2, rfl, g2⟩ := row_of h1
  exact ⟨a1, a2, l1, l2, k1, k2, z1, z2, rfl, g1, g2⟩
end
end Go.Proofs.Ytnminpbnlcgblaa.Typ
