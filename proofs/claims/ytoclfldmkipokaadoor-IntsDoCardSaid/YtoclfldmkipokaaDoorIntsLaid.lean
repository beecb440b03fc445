/- The library's table, as the rows list it, stands in its variable. And what operators give, in short. -/
import Derived.Test.YtoclfldmkipokaaDoorIntsAwake
import Derived.Test.YtoclfldmkipokaaDoorRows
import Derived.ProofKit
import Derived.Lay
import Derived.LaidOnce
import Derived.OpenShut
import Derived.ShutString
import Derived.ChangeOld
namespace Go.Proofs.YtoclfldmkipokaaDoor.Ints
open Go.ChangeShapes Go.WideShapes Go.ChangeAt Go.RowKit
set_option maxRecDepth 100000

def laid1 : List (String × DataW Unit) := [("math/bits.deBruijn64tab", Rows.laid_math_bits_deBruijn64tab)]
theorem tab_data : (Rows.laid_math_bits_deBruijn64tab : DataW Unit) = .agg (Lib.deBruijn64tab.map fun n : Nat => .lit (.int .u8 (n : Int))) := by rfl
theorem tab_of_laid {W : World} (h : laidMetH Tryd.prog laid1 W) : Tab W := by
  intro r hr
  rw [MakeChecks.laidMetH_plain _ _ _ (by kernel_rfl)] at h
  obtain ⟨ps, ⟨g, t, cs, fuel, p, q, hg, ht, hv, hd, _, _⟩, _, _⟩ := h
  obtain rfl := Option.some.inj ((show Tryd.prog.globalNamed "math/bits.deBruijn64tab" = some 0 by kernel_rfl).symm.trans hg)
  obtain rfl := Option.some.inj ((show (Tryd.prog.globals[0]?).map (·.type) = some 69 by kernel_rfl).symm.trans ht)
  obtain ⟨xs, m, _, ex, _, hl, hel⟩ := DataW.trod_array Tryd.underlying69 hd
  have c5 : Tryd.prog.cellsOf 5 = 1 := by kernel_rfl
  have hE := hel r hr
  rw [c5, Nat.mul_one, List.getElem?_eq_getElem (by omega)] at hE
  obtain ⟨z, e1, e2, _⟩ := DataW.trod_int Tryd.underlying5 hE
  have hlen : Lib.deBruijn64tab.length = 64 := by kernel_rfl
  rw [tab_data] at ex
  have e3 : (xs.map (·.1)) = Lib.deBruijn64tab.map fun n : Nat => (.lit (.int .u8 (n : Int)) : DataW Unit) := (DataW.agg.inj (Prod.mk.inj ex).1).symm
  have e4 : (xs.map (·.1))[r]? = (Lib.deBruijn64tab.map fun n : Nat => (DataW.lit (.int .u8 (n : Int)) : DataW Unit))[r]? := by rw [e3]
  rw [List.getElem?_map, List.getElem?_map, List.getElem?_eq_getElem (by omega : r < xs.length), List.getElem?_eq_getElem (by omega : r < Lib.deBruijn64tab.length), e2] at e4
  have hz : z = ((Lib.deBruijn64tab.getD r 0 : Nat) : Int) := by
    simp only [Option.map_some, Option.some.injEq, DataW.lit.injEq, Lit.int.injEq, true_and] at e4
    rw [e4, List.getD, List.getElem?_eq_getElem (by omega : r < Lib.deBruijn64tab.length)]; rfl
  rw [World.var?_cell hg hv r, ← hz]
  have : cs.toList[r]? = some (.int .u8 z) := by
    have h0 : ((cs.toList.drop r).take 1)[0]? = some (.int .u8 z) := by rw [e1]; rfl
    simpa using h0
  simpa using this

theorem tw_nt {op t l : Int} (a b : Int) (hB : twB op = true) (ht : famT op = t) (hl : famL op = l) (hn : l < 109 ∨ 112 < l) : twV op a b = loT (gvT t l) (ruV t l (loT t a) (loT t b)) ∧ twT op a b = 0 := by
  subst ht hl
  have h0 : trT (famT op) (famL op) (loT (famT op) a) (loT (famT op) b) = 0 := if_pos hn
  exact ⟨(if_pos hB).trans (if_pos h0), (if_pos hB).trans h0⟩
theorem tw_dv {op t l : Int} (a b : Int) (hB : twB op = true) (ht : famT op = t) (hl : famL op = l) : twV op a b = opV t l a b ∧ twT op a b = trT t l (loT t a) (loT t b) := by
  subst ht hl
  exact ⟨if_pos hB, if_pos hB⟩
theorem on_nt {op t l : Int} (a : Int) (hB : onB op = true) (ht : famT op = t) (hl : famL op = l) (hn : l < 109 ∨ 112 < l) : onV op a = loT (gvT t l) (ruV t l (loT t a) (loT t 0)) := by
  subst ht hl
  have h0 : trT (famT op) (famL op) (loT (famT op) a) (loT (famT op) 0) = 0 := if_pos hn
  exact (if_pos hB).trans (if_pos h0)
theorem one_at {op a v : Int} (hv : onV op a = v) (hB : onB op = true) (ha : u64R a) (W : World) (hT : Tab W) : Calls Tryd.prog 16 #[.int .i64 op, .int .u64 a] W fun e w' => e = .returned (.tuple #[.int .u64 v, .bool true]) ∧ Below W.heap.size W w' := by
  have := one_any op a W hT ha
  rw [hv, hB] at this
  exact this
theorem two_at {op a b v t : Int} (hv : twV op a b = v) (ht : twT op a b = t) (hB : twB op = true) (ha : u64R a) (hb : u64R b) (W : World) (hT : Tab W) : Calls Tryd.prog 18 #[.int .i64 op, .int .u64 a, .int .u64 b] W fun e w' => e = .returned (.tuple #[.int .u64 v, .int .i64 t, .bool true]) ∧ Below W.heap.size W w' := by
  have := two_any op a b W hT ha hb
  rw [hv, ht, hB] at this
  exact this
theorem u64_of {x : Int} (h : (Lit.int .u64 x).wf = true) : u64R x := by simpa [Lit.wf, IntKind.min, IntKind.max, IntKind.signed, IntKind.bits, u64R] using h
theorem i64_of {x : Int} (h : (Lit.int .i64 x).wf = true) : -9223372036854775808 ≤ x ∧ x ≤ 9223372036854775807 := by simpa [Lit.wf, IntKind.min, IntKind.max, IntKind.signed, IntKind.bits] using h
theorem u8_of {x : Int} (h : (Lit.int .u8 x).wf = true) : 0 ≤ x ∧ x ≤ 255 := by simpa [Lit.wf, IntKind.min, IntKind.max, IntKind.signed, IntKind.bits] using h
end Go.Proofs.YtoclfldmkipokaaDoor.Ints
