/- What came in, as the statements of layer 5 take it: an instruction. -/
import Derived.Test.YtdmidagcdhhlhaaDoorInsTold
import Derived.Test.YtdmidagcdhhlhaaDoorInsPTabs
import Derived.Lib.SmallJoins
import Derived.ProofKit
import Derived.OpenShut
namespace Go.Proofs.YtdmidagcdhhlhaaDoor.Ins
open Go.ChangeShapes Go.WideShapes Go.ChangeAt Go.RowKit Go.Joins Ints Typ
set_option maxRecDepth 100000
set_option maxHeartbeats 400000
set_option linter.unusedVariables false

theorem array5 {α : Type} {cs : Array α} (h : cs.size = 5) : ∃ c0 c1 c2 c3 c4, cs = #[c0, c1, c2, c3, c4] := by
  obtain ⟨l⟩ := cs
  match l, h with
  | [c0, c1, c2, c3, c4], _ => exact ⟨c0, c1, c2, c3, c4, rfl⟩
theorem cellsI : Tryd.prog.cellsOf 50 = 5 := by kernel_rfl
theorem cInt : Tryd.prog.cellsOf 3 = 1 := by kernel_rfl
theorem cU64 : Tryd.prog.cellsOf 48 = 1 := by kernel_rfl
theorem cSl : Tryd.prog.cellsOf 44 = 1 := by kernel_rfl
section
variable {H : Type} {enc : TypeId × Value → H} {w : World} {base : Nat}
theorem rowi_of {n : Nat} {v : Value} {y : DataW H × List MemPlace} (h : DataW.trod enc Tryd.prog w base (fun _ => true) true n 44 [v] = some y) : ∃ (a : Option Addr) (l c : Nat) (zs : List Int), v = .slice a l c ∧ Leb.Came .i64 w a l c zs := by
  rcases open_ints Tryd.underlying44 Tryd.underlying3 (by kernel_rfl) h with ⟨hcs, _⟩ | ⟨x, l, c, zs, hcs, _, hl, hm, hz, _, hcell, hwz⟩
  · simp at hcs
    subst hcs
    exact ⟨none, 0, 0, [], rfl, .inl ⟨rfl, rfl, rfl, rfl⟩⟩
  · simp at hcs
    subst hcs
    exact ⟨some x, l, c, zs, rfl, .inr ⟨_, rfl, hl, hm, by simpa using hz, hcell, hwz⟩⟩
theorem rowb_of {n : Nat} {v : Value} {y : DataW H × List MemPlace} (h : DataW.trod enc Tryd.prog w base (fun _ => true) true n 23 [v] = some y) : ∃ (a : Option Addr) (l c : Nat) (zs : List Int), v = .slice a l c ∧ Leb.Came .u8 w a l c zs := by
  rcases open_ints Tryd.underlying23 Tryd.underlying5 (by kernel_rfl) h with ⟨hcs, _⟩ | ⟨x, l, c, zs, hcs, _, hl, hm, hz, _, hcell, hwz⟩
  · simp at hcs
    subst hcs
    exact ⟨none, 0, 0, [], rfl, .inl ⟨rfl, rfl, rfl, rfl⟩⟩
  · simp at hcs
    subst hcs
    exact ⟨some x, l, c, zs, rfl, .inr ⟨_, rfl, hl, hm, by simpa using hz, hcell, hwz⟩⟩
/-- An instruction's five cells, as they came in. -/
theorem in_cells {n : Nat} {c0 c1 c2 c3 c4 : Value} {y : DataW H × List MemPlace} (h : DataW.trod enc Tryd.prog w base (fun _ => true) true n 50 [c0, c1, c2, c3, c4] = some y) :
    ∃ (op A B K : Int) (a : Option Addr) (l c : Nat) (zs : List Int), c0 = .int .i64 op ∧ c1 = .int .i64 A ∧ c2 = .int .i64 B ∧ c3 = .int .u64 K ∧ c4 = .slice a l c ∧ (Lit.int .i64 op).wf = true ∧ (Lit.int .i64 A).wf = true ∧ (Lit.int .i64 B).wf = true ∧ (Lit.int .u64 K).wf = true ∧ Leb.Came .i64 w a l c zs := by
  obtain ⟨ys, m, _, _, _, hlen, hf⟩ := DataW.trod_struct Tryd.underlying50 h
  have h0 : DataW.trod enc Tryd.prog w base (fun _ => true) true m 3 (([c0, c1, c2, c3, c4].drop 0).take (Tryd.prog.cellsOf 3)) = ys[0]? := hf 0 _ rfl
  have h1 : DataW.trod enc Tryd.prog w base (fun _ => true) true m 3 (([c0, c1, c2, c3, c4].drop 1).take (Tryd.prog.cellsOf 3)) = ys[1]? := hf 1 _ rfl
  have h2 : DataW.trod enc Tryd.prog w base (fun _ => true) true m 3 (([c0, c1, c2, c3, c4].drop 2).take (Tryd.prog.cellsOf 3)) = ys[2]? := hf 2 _ rfl
  have h3 : DataW.trod enc Tryd.prog w base (fun _ => true) true m 48 (([c0, c1, c2, c3, c4].drop 3).take (Tryd.prog.cellsOf 48)) = ys[3]? := hf 3 _ rfl
  have h4 : DataW.trod enc Tryd.prog w base (fun _ => true) true m 44 (([c0, c1, c2, c3, c4].drop 4).take (Tryd.prog.cellsOf 44)) = ys[4]? := hf 4 _ rfl
  rw [cInt] at h0 h1 h2
  rw [cU64] at h3
  rw [cSl] at h4
  match ys, hlen with
  | [y0, y1, y2, y3, y4], _ =>
    obtain ⟨op, e0, _, w0⟩ := DataW.trod_int Tryd.underlying3 (x := y0) (by rw [h0]; rfl)
    obtain ⟨A, e1, _, w1⟩ := DataW.trod_int Tryd.underlying3 (x := y1) (by rw [h1]; rfl)
    obtain ⟨B, e2, _, w2⟩ := DataW.trod_int Tryd.underlying3 (x := y2) (by rw [h2]; rfl)
    obtain ⟨K, e3, _, w3⟩ := DataW.trod_int Tryd.underlying48 (x := y3) (by rw [h3]; rfl)
    obtain ⟨a, l, c, zs, e4, g4⟩ := rowi_of (v := c4) (y := y4) (by simpa using h4)
    simp at e0 e1 e2 e3
    exact ⟨op, A, B, K, a, l, c, zs, e0, e1, e2, e3, e4, w0, w1, w2, w3, g4⟩
theorem in_of {r : Reach} {b0 : Nat} {v : Value} {d : DataW H} {p : List MemPlace} (hv : Value.okWide Tryd.prog w r b0 50 v) (h : DataW.Trod enc Tryd.prog w base (fun _ => true) true 50 v d p) :
    ∃ (op A B K : Int) (a : Option Addr) (l c : Nat) (zs : List Int), v = .agg #[.int .i64 op, .int .i64 A, .int .i64 B, .int .u64 K, .slice a l c] ∧ (Lit.int .i64 op).wf = true ∧ (Lit.int .i64 A).wf = true ∧ (Lit.int .i64 B).wf = true ∧ (Lit.int .u64 K).wf = true ∧ Leb.Came .i64 w a l c zs := by
  obtain ⟨cs, rfl, hsz⟩ := okWide_struct Tryd.underlying50 hv
  obtain ⟨c0, c1, c2, c3, c4, rfl⟩ := array5 (hsz.trans cellsI)
  obtain ⟨fuel, hf⟩ := h
  obtain ⟨op, A, B, K, a, l, c, zs, rfl, rfl, rfl, rfl, rfl, w0, w1, w2, w3, g4⟩ := in_cells (by simpa [Value.cells] using hf)
  exact ⟨op, A, B, K, a, l, c, zs, rfl, w0, w1, w2, w3, g4⟩
end
end Go.Proofs.YtdmidagcdhhlhaaDoor.Ins
