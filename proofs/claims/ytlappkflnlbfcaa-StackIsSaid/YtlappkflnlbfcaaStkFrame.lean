/- What came in, as the statements of layer 9 take it: acts, bytes, a stack. -/
import Derived.Test.YtlappkflnlbfcaaStkPlain
import Derived.Lib.SmallJoins
import Derived.ProofKit
import Derived.OpenShut
import Derived.Deep.Slices
namespace Go.Proofs.Ytlappkflnlbfcaa.Stk
open Go.ChangeShapes Go.WideShapes Go.ChangeAt Go.RowKit Go.Joins Row9
set_option maxRecDepth 100000
set_option maxHeartbeats 400000
set_option linter.unusedVariables false
theorem cU8 : Try.prog.cellsOf 5 = 1 := by kernel_rfl
theorem cInt : Try.prog.cellsOf 3 = 1 := by kernel_rfl
theorem cBool : Try.prog.cellsOf 4 = 1 := by kernel_rfl
theorem cSl : Try.prog.cellsOf 22 = 1 := by kernel_rfl
theorem cSc : Try.prog.cellsOf 23 = 1 := by kernel_rfl
theorem cCtl : Try.prog.cellsOf 49 = 4 := by kernel_rfl
theorem cStk : Try.prog.cellsOf 25 = 2 := by kernel_rfl
section
variable {H : Type} {enc : TypeId × Value → H} {w : World} {base : Nat}
theorem byte_each {n : Nat} {cs : List Value} {y : DataW H × List MemPlace} (hl : cs.length = 1) (h : DataW.trod enc Try.prog w base (fun _ => true) true n 5 cs = some y) : ∃ q : Int, elB.ok w q ∧ elB.enc q = cs := by
  obtain ⟨op, e0, _, w0⟩ := DataW.trod_int Try.underlying5 (x := y) h
  refine ⟨op, ?_, e0.symm⟩
  have := bounds_u8 w0
  exact ⟨by omega, by omega⟩
theorem bytes_of {n : Nat} {v : Value} {y : DataW H × List MemPlace} (h : DataW.trod enc Try.prog w base (fun _ => true) true n 22 [v] = some y) : ∃ l, Row elB w v l :=
  row_of elB Try.underlying22 cU8 (fun hl hh => byte_each hl hh) h
theorem w64_of {x : Int} (h : (Lit.int .i64 x).wf = true) : w64 x := by
  have := bounds_i64 h
  unfold w64
  omega
theorem bs_of {r : Reach} {b0 : Nat} {v : Value} {d : DataW H} {p : List MemPlace} (hv : Value.okWide Try.prog w r b0 22 v) (h : DataW.Trod enc Try.prog w base (fun _ => true) true 22 v d p) : ∃ l, Row elB w v l := by
  obtain ⟨a, l, c, rfl⟩ := okWide_slice Try.underlying22 hv
  obtain ⟨fuel, hf⟩ := h
  exact bytes_of hf
theorem ctl_each {n : Nat} {cs : List Value} {y : DataW H × List MemPlace} (hl : cs.length = 4) (h : DataW.trod enc Try.prog w base (fun _ => true) true n 49 cs = some y) : ∃ q : CtV, elD.ok w q ∧ elD.enc q = cs := by
  match cs, hl with
  | [c0, c1, c2, c3], _ =>
    obtain ⟨ys, m, _, _, _, hlen, hf⟩ := DataW.trod_struct Try.underlying49 h
    have h0 : DataW.trod enc Try.prog w base (fun _ => true) true m 3 (([c0, c1, c2, c3].drop 0).take (Try.prog.cellsOf 3)) = ys[0]? := hf 0 _ rfl
    have h1 : DataW.trod enc Try.prog w base (fun _ => true) true m 22 (([c0, c1, c2, c3].drop 1).take (Try.prog.cellsOf 22)) = ys[1]? := hf 1 _ rfl
    have h2 : DataW.trod enc Try.prog w base (fun _ => true) true m 3 (([c0, c1, c2, c3].drop 2).take (Try.prog.cellsOf 3)) = ys[2]? := hf 2 _ rfl
    have h3 : DataW.trod enc Try.prog w base (fun _ => true) true m 4 (([c0, c1, c2, c3].drop 3).take (Try.prog.cellsOf 4)) = ys[3]? := hf 3 _ rfl
    rw [cInt] at h0 h2
    rw [cSl] at h1
    rw [cBool] at h3
    match ys, hlen with
    | [y0, y1, y2, y3], _ =>
      obtain ⟨a, e0, _, w0⟩ := DataW.trod_int Try.underlying3 (x := y0) (by rw [h0]; rfl)
      obtain ⟨b, e2, _, w2⟩ := DataW.trod_int Try.underlying3 (x := y2) (by rw [h2]; rfl)
      obtain ⟨l, hr⟩ := bytes_of (v := c1) (y := y1) (by simpa using h1)
      obtain ⟨x, e3, _⟩ := DataW.trod_bool Try.underlying4 (x := y3) (by rw [h3]; rfl)
      simp at e0 e2 e3
      subst e0 e2 e3
      exact ⟨(⟨a, l, b, x⟩, c1), ⟨hr, w64_of w0, w64_of w2⟩, rfl⟩
theorem ctls_of {n : Nat} {v : Value} {y : DataW H × List MemPlace} (h : DataW.trod enc Try.prog w base (fun _ => true) true n 23 [v] = some y) : ∃ l, Row elD w v l :=
  row_of elD Try.underlying23 cCtl (fun hl hh => ctl_each hl hh) h
theorem st_of {r : Reach} {b0 : Nat} {v : Value} {d : DataW H} {p : List MemPlace} (hv : Value.okWide Try.prog w r b0 25 v) (h : DataW.Trod enc Try.prog w base (fun _ => true) true 25 v d p) : ∃ s, StIs elD w v s := by
  obtain ⟨c0, c1, y0, y1, n, rfl, _, _, h0, h1⟩ := open_agg2 Try.underlying25 (by kernel_rfl) cStk hv h
  obtain ⟨vs, h2⟩ := bytes_of h0
  obtain ⟨l, h3⟩ := ctls_of h1
  exact ⟨⟨vs, l.map (·.1)⟩, c0, c1, l, rfl, h2, h3, rfl⟩
end
end Go.Proofs.Ytlappkflnlbfcaa.Stk
