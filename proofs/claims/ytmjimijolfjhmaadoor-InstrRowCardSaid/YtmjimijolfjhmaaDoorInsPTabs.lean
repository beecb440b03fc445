/- The listed tables, as the rows have them, stand in their variables. -/
import Derived.Test.YtmjimijolfjhmaaDoorInsPKind
import Derived.Test.YtmjimijolfjhmaaDoorRows
import Derived.ProofKit
import Derived.Lay
import Derived.LaidOnce
import Derived.OpenShut
import Derived.ShutString
import Derived.ChangeOld
namespace Go.Proofs.YtmjimijolfjhmaaDoor.Ins
open Go.ChangeShapes Go.WideShapes Go.ChangeAt Go.RowKit
set_option maxRecDepth 100000
set_option linter.unusedVariables false

def laidK : List (String × DataW Unit) := [("avocet/instr.kinds", Rows.laid_avocet_instr_kinds)]
def laidKA : List (String × DataW Unit) := [("avocet/instr.kinds", Rows.laid_avocet_instr_kinds), ("avocet/instr.accesses", Rows.laid_avocet_instr_accesses)]
theorem kinds_data : (Rows.laid_avocet_instr_kinds : DataW Unit) = .agg ((List.range 174).map fun r : Nat => .lit (.int .u8 (kd (r : Int)))) := by kernel_rfl
theorem cell_lt {w : World} {a : Addr} {v : Value} (h : w.cell? a = some v) : a.block < w.heap.size := by
  unfold World.cell? at h
  by_cases hlt : a.block < w.heap.size
  · exact hlt
  · rw [Array.getElem?_eq_none (by omega)] at h
    simp at h
theorem ktab_core {W : World} {g t : Nat} {cs : Array Value} {fuel : Nat} {p : List MemPlace} (hg : Tryd.prog.globalNamed "avocet/instr.kinds" = some g) (ht : (Tryd.prog.globals[g]?).map (·.type) = some t) (hv : W.var? Tryd.prog "avocet/instr.kinds" = some cs)
    (hd : DataW.trod (fun _ => ()) Tryd.prog W 0 (fun _ => true) false fuel t cs.toList = some (Rows.laid_avocet_instr_kinds, p)) : KTab W := by
  obtain rfl := Option.some.inj ((show Tryd.prog.globalNamed "avocet/instr.kinds" = some 1 by kernel_rfl).symm.trans hg)
  obtain rfl := Option.some.inj ((show (Tryd.prog.globals[1]?).map (·.type) = some 63 by kernel_rfl).symm.trans ht)
  obtain ⟨xs, m, _, ex, _, hl, hel⟩ := DataW.trod_array Tryd.underlying63 hd
  have c5 : Tryd.prog.cellsOf 5 = 1 := by kernel_rfl
  have key : ∀ r : Nat, r < 174 → W.cell? ⟨1, r, none⟩ = some (.int .u8 (kd (r : Int))) := by
    intro r hr
    have hE := hel r hr
    rw [c5, Nat.mul_one, List.getElem?_eq_getElem (by omega)] at hE
    obtain ⟨z, e1, e2, _⟩ := DataW.trod_int Tryd.underlying5 hE
    rw [kinds_data] at ex
    have e3 : (xs.map (·.1)) = (List.range 174).map fun r : Nat => (.lit (.int .u8 (kd (r : Int))) : DataW Unit) := (DataW.agg.inj (Prod.mk.inj ex).1).symm
    have e4 : (xs.map (·.1))[r]? = ((List.range 174).map fun r : Nat => (DataW.lit (.int .u8 (kd (r : Int))) : DataW Unit))[r]? := by rw [e3]
    rw [List.getElem?_map, List.getElem?_map, List.getElem?_eq_getElem (by omega : r < xs.length), List.getElem?_range hr, e2] at e4
    have hz : z = kd (r : Int) := by simpa only [Option.map_some, Option.some.injEq, DataW.lit.injEq, Lit.int.injEq, true_and] using e4
    rw [World.var?_cell hg hv r, ← hz]
    have : cs.toList[r]? = some (.int .u8 z) := by
      have h0 : ((cs.toList.drop r).take 1)[0]? = some (.int .u8 z) := by rw [e1]; rfl
      simpa using h0
    simpa using this
  exact ⟨cell_lt (key 0 (by decide)), key⟩
theorem ktab_of_laidK {W : World} (h : laidMetH Tryd.prog laidK W) : KTab W := by
  rw [MakeChecks.laidMetH_plain _ _ _ (by kernel_rfl)] at h
  obtain ⟨ps, ⟨g, t, cs, fuel, p, q, hg, ht, hv, hd, _, _⟩, _, _⟩ := h
  exact ktab_core hg ht hv hd
theorem ktab_of_laidKA {W : World} (h : laidMetH Tryd.prog laidKA W) : KTab W := by
  rw [MakeChecks.laidMetH_plain _ _ _ (by kernel_rfl)] at h
  obtain ⟨ps, ⟨g, t, cs, fuel, p, q, hg, ht, hv, hd, _, _⟩, _, _⟩ := h
  exact ktab_core hg ht hv hd
theorem accs_data : (Rows.laid_avocet_instr_accesses : DataW Unit) = .agg ((List.range 23).map fun r : Nat => .agg [.lit (.int .u8 (ax ((r : Int) + 40)).1), .lit (.int .i64 (ax ((r : Int) + 40)).2.1), .lit (.bool (ax ((r : Int) + 40)).2.2.1), .lit (.bool (ax ((r : Int) + 40)).2.2.2)]) := by kernel_rfl
theorem pick1 {L : List Value} {a i : Nat} {v : Value} (hi : i < 4) (h : (((L.drop a).take 4).drop i).take 1 = [v]) : L[a + i]? = some v := by
  have h0 : ((((L.drop a).take 4).drop i).take 1)[0]? = some v := by rw [h]; rfl
  simpa [List.getElem?_take, List.getElem?_drop, hi] using h0
theorem atab_core {W : World} {g t : Nat} {cs : Array Value} {fuel : Nat} {p : List MemPlace} (hg : Tryd.prog.globalNamed "avocet/instr.accesses" = some g) (ht : (Tryd.prog.globals[g]?).map (·.type) = some t) (hv : W.var? Tryd.prog "avocet/instr.accesses" = some cs)
    (hd : DataW.trod (fun _ => ()) Tryd.prog W 0 (fun _ => true) false fuel t cs.toList = some (Rows.laid_avocet_instr_accesses, p)) : ATab W := by
  obtain rfl := Option.some.inj ((show Tryd.prog.globalNamed "avocet/instr.accesses" = some 0 by kernel_rfl).symm.trans hg)
  obtain rfl := Option.some.inj ((show (Tryd.prog.globals[0]?).map (·.type) = some 59 by kernel_rfl).symm.trans ht)
  obtain ⟨xs, m, _, ex, _, hl, hel⟩ := DataW.trod_array Tryd.underlying59 hd
  have c5 : Tryd.prog.cellsOf 58 = 4 := by kernel_rfl
  have b1 : Tryd.prog.cellsOf 5 = 1 := by kernel_rfl
  have b2 : Tryd.prog.cellsOf 3 = 1 := by kernel_rfl
  have b3 : Tryd.prog.cellsOf 4 = 1 := by kernel_rfl
  have key : ∀ r : Nat, r < 23 →
      W.cell? ⟨0, r * 4, none⟩ = some (.int .u8 (ax ((r : Int) + 40)).1) ∧ W.cell? ⟨0, r * 4 + 1, none⟩ = some (.int .i64 (ax ((r : Int) + 40)).2.1) ∧
      W.cell? ⟨0, r * 4 + 2, none⟩ = some (.bool (ax ((r : Int) + 40)).2.2.1) ∧ W.cell? ⟨0, r * 4 + 3, none⟩ = some (.bool (ax ((r : Int) + 40)).2.2.2) := by
    intro r hr
    have hE := hel r hr
    rw [c5, List.getElem?_eq_getElem (by omega)] at hE
    obtain ⟨ys, n, _, e2, _, hlen, hf⟩ := DataW.trod_struct Tryd.underlying58 hE
    rw [accs_data] at ex
    have e3 : (xs.map (·.1)) = (List.range 23).map fun r : Nat => (.agg [.lit (.int .u8 (ax ((r : Int) + 40)).1), .lit (.int .i64 (ax ((r : Int) + 40)).2.1), .lit (.bool (ax ((r : Int) + 40)).2.2.1), .lit (.bool (ax ((r : Int) + 40)).2.2.2)] : DataW Unit) := (DataW.agg.inj (Prod.mk.inj ex).1).symm
    have e4 : (xs.map (·.1))[r]? = ((List.range 23).map fun r : Nat => (.agg [.lit (.int .u8 (ax ((r : Int) + 40)).1), .lit (.int .i64 (ax ((r : Int) + 40)).2.1), .lit (.bool (ax ((r : Int) + 40)).2.2.1), .lit (.bool (ax ((r : Int) + 40)).2.2.2)] : DataW Unit))[r]? := by rw [e3]
    rw [List.getElem?_map, List.getElem?_map, List.getElem?_eq_getElem (by omega : r < xs.length), List.getElem?_range hr] at e4
    simp only [Option.map_some, Option.some.injEq] at e4
    rw [e2] at e4
    generalize ax ((r : Int) + 40) = q at *
    have hc : ∀ i, W.cell? ⟨0, r * 4 + i, none⟩ = cs[r * 4 + i]? := fun i => World.var?_cell hg hv (r * 4 + i)
    have h0 : DataW.trod (fun _ => ()) Tryd.prog W 0 (fun _ => true) false n 5 ((((cs.toList.drop (r * 4)).take 4).drop 0).take (Tryd.prog.cellsOf 5)) = ys[0]? := hf 0 _ rfl
    have h1 : DataW.trod (fun _ => ()) Tryd.prog W 0 (fun _ => true) false n 3 ((((cs.toList.drop (r * 4)).take 4).drop 1).take (Tryd.prog.cellsOf 3)) = ys[1]? := hf 1 _ rfl
    have h2 : DataW.trod (fun _ => ()) Tryd.prog W 0 (fun _ => true) false n 4 ((((cs.toList.drop (r * 4)).take 4).drop 2).take (Tryd.prog.cellsOf 4)) = ys[2]? := hf 2 _ rfl
    have h3 : DataW.trod (fun _ => ()) Tryd.prog W 0 (fun _ => true) false n 4 ((((cs.toList.drop (r * 4)).take 4).drop 3).take (Tryd.prog.cellsOf 4)) = ys[3]? := hf 3 _ rfl
    rw [b1] at h0
    rw [b2] at h1
    rw [b3] at h2 h3
    match ys, hlen with
    | [y0, y1, y2, y3], _ =>
      simp only [List.map_cons, List.map_nil, DataW.agg.injEq, List.cons.injEq, and_true] at e4
      obtain ⟨k0, k1, k2, k3⟩ := e4
      obtain ⟨z0, f0, g0, _⟩ := DataW.trod_int Tryd.underlying5 (x := y0) (by rw [h0]; rfl)
      obtain ⟨z1, f1, g1, _⟩ := DataW.trod_int Tryd.underlying3 (x := y1) (by rw [h1]; rfl)
      obtain ⟨z2, f2, g2⟩ := DataW.trod_bool Tryd.underlying4 (x := y2) (by rw [h2]; rfl)
      obtain ⟨z3, f3, g3⟩ := DataW.trod_bool Tryd.underlying4 (x := y3) (by rw [h3]; rfl)
      rw [g0] at k0
      rw [g1] at k1
      rw [g2] at k2
      rw [g3] at k3
      have q0 : z0 = q.1 := by simpa using k0
      have q1 : z1 = q.2.1 := by simpa using k1
      have q2 : z2 = q.2.2.1 := by simpa using k2
      have q3 : z3 = q.2.2.2 := by simpa using k3
      have p0 := pick1 (by decide) f0
      have p1 := pick1 (by decide) f1
      have p2 := pick1 (by decide) f2
      have p3 := pick1 (by decide) f3
      rw [Array.getElem?_toList] at p0 p1 p2 p3
      have c0 := hc 0
      have c1 := hc 1
      have c2 := hc 2
      have c3 := hc 3
      rw [p0, q0] at c0
      rw [p1, q1] at c1
      rw [p2, q2] at c2
      rw [p3, q3] at c3
      exact ⟨c0, c1, c2, c3⟩
  exact ⟨cell_lt (key 0 (by decide)).1, key⟩
theorem atab_of_laidKA {W : World} (h : laidMetH Tryd.prog laidKA W) : ATab W := by
  rw [MakeChecks.laidMetH_plain _ _ _ (by kernel_rfl)] at h
  obtain ⟨ps, ⟨g, t, cs, fuel, p, q, hg, ht, hv, hd, ⟨g2, t2, cs2, fuel2, p2, q2, hg2, ht2, hv2, hd2, _, _⟩, _⟩, _, _⟩ := h
  exact atab_core hg2 ht2 hv2 hd2
end Go.Proofs.YtmjimijolfjhmaaDoor.Ins
