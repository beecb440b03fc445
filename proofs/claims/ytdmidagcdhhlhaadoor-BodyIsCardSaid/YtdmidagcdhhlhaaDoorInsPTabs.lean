/- The listed tables, as the rows have them, stand in their variables. -/
import Derived.Test.YtdmidagcdhhlhaaDoorInsPKind
import Derived.Test.YtdmidagcdhhlhaaDoorRows
import Derived.ProofKit
import Derived.Lay
import Derived.LaidOnce
import Derived.OpenShut
import Derived.ShutString
import Derived.ChangeOld
namespace Go.Proofs.YtdmidagcdhhlhaaDoor.Ins
open Go.ChangeShapes Go.WideShapes Go.ChangeAt Go.RowKit
set_option maxRecDepth 100000
set_option linter.unusedVariables false

def laidK : List (String × DataW Unit) := [("avocet/instr.kinds", Rows.laid_avocet_instr_kinds)]
theorem kinds_data : (Rows.laid_avocet_instr_kinds : DataW Unit) = .agg ((List.range 174).map fun r : Nat => .lit (.int .u8 (kd (r : Int)))) := by kernel_rfl
theorem cell_lt {w : World} {a : Addr} {v : Value} (h : w.cell? a = some v) : a.block < w.heap.size := by
  unfold World.cell? at h
  by_cases hlt : a.block < w.heap.size
  · exact hlt
  · rw [Array.getElem?_eq_none (by omega)] at h
    simp at h
theorem ktab_core {W : World} {g t : Nat} {cs : Array Value} {fuel : Nat} {p : List MemPlace} (hg : Tryd.prog.globalNamed "avocet/instr.kinds" = some g) (ht : (Tryd.prog.globals[g]?).map (·.type) = some t) (hv : W.var? Tryd.prog "avocet/instr.kinds" = some cs)
    (hd : DataW.trod (fun _ => ()) Tryd.prog W 0 (fun _ => true) false fuel t cs.toList = some (Rows.laid_avocet_instr_kinds, p)) : KTab W := by
  obtain rfl := Option.some.inj ((show Tryd.prog.globalNamed "avocet/instr.kinds" = some 0 by kernel_rfl).symm.trans hg)
  obtain rfl := Option.some.inj ((show (Tryd.prog.globals[0]?).map (·.type) = some 99 by kernel_rfl).symm.trans ht)
  obtain ⟨xs, m, _, ex, _, hl, hel⟩ := DataW.trod_array Tryd.underlying99 hd
  have c5 : Tryd.prog.cellsOf 5 = 1 := by kernel_rfl
  have key : ∀ r : Nat, r < 174 → W.cell? ⟨0, r, none⟩ = some (.int .u8 (kd (r : Int))) := by
    intro r hr
    have hE := hel r hr
    rw [c5, Nat.mul_one, List.getElem?_eq_getElem (by omega)] at hE
    obtain ⟨z, e1, e2, _⟩ := DataW.trod_int Tryd.underlying5 hE
    rw [kinds_data] at ex
    have e3 : (xs.map (·.1)) = (List.range 174).map fun r : Nat => (.lit (.int .u8 (kd (r : Int))) : DataW Unit) := (DataW.agg.inj (Prod.mk.inj ex).1).symm
    have e4 : (xs.map (·.1))[r]? = ((List.range 174).map fun r : Nat => (DataW.lit (.int .u8 (kd (r : Int))) : DataW Unit))[r]? := by rw [e3]
    rw [List.getElem?_map, List.getElem?_map, List.getElem?_eq_getElem (by omega : r < xs.length), List.getElem?_range hr, e2] at e4
    have hz : z = kd (r : Int) := by simpa only [Option.map_some, Option.some.injEq, DataW.lit.injEq, Lit.int.injEq, true_and] using e4
    rw [World.var?_cell hg hv r, ← hz]
    have : cs.toList[r]? = some (.int .u8 z) := by
      have h0 : ((cs.toList.drop r).take 1)[0]? = some (.int .u8 z) := by rw [e1]; rfl
      simpa using h0
    simpa using this
  exact ⟨cell_lt (key 0 (by decide)), key⟩
theorem ktab_of_laidK {W : World} (h : laidMetH Tryd.prog laidK W) : KTab W := by
  rw [MakeChecks.laidMetH_plain _ _ _ (by kernel_rfl)] at h
  obtain ⟨ps, ⟨g, t, cs, fuel, p, q, hg, ht, hv, hd, _, _⟩, _, _⟩ := h
  exact ktab_core hg ht hv hd
theorem pick1 {L : List Value} {a i : Nat} {v : Value} (hi : i < 4) (h : (((L.drop a).take 4).drop i).take 1 = [v]) : L[a + i]? = some v := by
  have h0 : ((((L.drop a).take 4).drop i).take 1)[0]? = some v := by rw [h]; rfl
  simpa [List.getElem?_take, List.getElem?_drop, hi] using h0
end Go.Proofs.YtdmidagcdhhlhaaDoor.Ins
