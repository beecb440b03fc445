/- StkCloseD, StkLabel, StkActs, StkGrown. -/
import Derived.Test.YtlappkflnlbfcaaGreatDoorPkStkCloseC
import Derived.Deep.RegionLaw
section
/- The program's Close, walked to its end. -/
namespace Go.Proofs.YtlappkflnlbfcaaGreatDoor.Stk
open Go.RowKit Row9
set_option maxRecDepth 100000
set_option maxHeartbeats 2000000
set_option linter.unusedVariables false
def CloseEnds (r : Stk × Ctl × Int) (w : World) (e : Ending) (w' : World) : Prop := (∃ v u, e = .returned (.tuple #[v, .agg #[.int .i64 r.2.1.op, u, .int .i64 r.2.1.ht, .bool r.2.1.dead], .int .i64 r.2.2]) ∧ StIs elP w' v r.1 ∧ Row elB w' u r.2.1.fin) ∧ Below w.heap.size w w'
theorem Close_any {a c : Value} {vals : List Int} {l : List CtV} {w : World} (ha : Row elB w a vals) (hc : Row elP w c l) (hvl : vals.length ≤ 400000) (hll : l.length ≤ 400000) :
    Calls Tryz.prog 52 #[.agg #[a, c]] w (CloseEnds (closeS ⟨vals, l.map (·.1)⟩) w) := by
  have hmf := mkf
  have HA := Lib.hid ha
  have HC := Lib.hid hc
  have HL := Lib.hid hvl
  have HLL := Lib.hid hll
  obtain ⟨Pa, ca, rfl, y1, y2⟩ := ha.form
  obtain ⟨Pc, cc_, rfl, y3, y4⟩ := hc.form
  obtain ⟨nv, hnv⟩ : ∃ n, vals.length = n := ⟨_, rfl⟩
  obtain ⟨nl, hnl⟩ : ∃ n, l.length = n := ⟨_, rfl⟩
  rw [closeS_is]
  obtain ⟨o, ho⟩ : ∃ o, closeV vals (l.map (·.1)) = o := ⟨_, rfl⟩
  have HO := Lib.hid ho
  show Calls _ _ _ _ (CloseEnds (closeMade ⟨vals, l.map (·.1)⟩ (closeV vals (l.map (·.1)))) w)
  rw [ho]
  rw [hnv] at HA ⊢
  rw [hnl] at HC ⊢
  have HNL := Lib.hid hnl
  have HB3 := Lib.hid (below4 w (.cells #[.slice Pa nv ca, .slice Pc nl cc_] 39) (.cells #[.slice none 0 0, .slice none 0 0] 39) zCells zCells)
  have HSz : Hid (((((w.alloc (.cells #[.slice Pa nv ca, .slice Pc nl cc_] 39)).alloc (.cells #[.slice none 0 0, .slice none 0 0] 39)).alloc zCells).alloc zCells).heap.size = w.heap.size + 1 + 1 + 1 + 1) := by
    show _ = _
    rw [size_new, size_new, size_new, size_new]
  have HZ1 : Hid (((((w.alloc (.cells #[.slice Pa nv ca, .slice Pc nl cc_] 39)).alloc (.cells #[.slice none 0 0, .slice none 0 0] 39)).alloc zCells).alloc zCells).heap[w.heap.size + 1]? = some (.cells #[.slice none 0 0, .slice none 0 0] 39 (0, 0))) := by
    show _ = _
    rw [(below2 ((w.alloc (.cells #[.slice Pa nv ca, .slice Pc nl cc_] 39)).alloc (.cells #[.slice none 0 0, .slice none 0 0] 39)) zCells zCells).block (w.heap.size + 1) (by simp only [size_new]; omega)]
    have := heap_new (w.alloc (.cells #[.slice Pa nv ca, .slice Pc nl cc_] 39)) (.cells #[.slice none 0 0, .slice none 0 0] 39)
    rw [size_new] at this
    exact this
  have HZ2 : Hid (((((w.alloc (.cells #[.slice Pa nv ca, .slice Pc nl cc_] 39)).alloc (.cells #[.slice none 0 0, .slice none 0 0] 39)).alloc zCells).alloc zCells).heap[w.heap.size + 1 + 1]? = some zCells) := by
    show _ = _
    rw [(below_new (((w.alloc (.cells #[.slice Pa nv ca, .slice Pc nl cc_] 39)).alloc (.cells #[.slice none 0 0, .slice none 0 0] 39)).alloc zCells) zCells).block (w.heap.size + 1 + 1) (by simp only [size_new]; omega)]
    have := heap_new ((w.alloc (.cells #[.slice Pa nv ca, .slice Pc nl cc_] 39)).alloc (.cells #[.slice none 0 0, .slice none 0 0] 39)) zCells
    rw [size_new, size_new] at this
    exact this
  have HX := Lib.hid (heap_new (((w.alloc (.cells #[.slice Pa nv ca, .slice Pc nl cc_] 39)).alloc (.cells #[.slice none 0 0, .slice none 0 0] 39)).alloc zCells) zCells)
  simp only [size_new] at HX
  clear y1 y2 y3 y4 ha hc hvl hll hnv hnl ho
  go_enter Tryz.func52, Tryz.ntmps52
  go_wp2_with fail
  change Calls _ _ _ ((((w.alloc (.cells #[.slice Pa nv ca, .slice Pc nl cc_] 39)).alloc (.cells #[.slice none 0 0, .slice none 0 0] 39)).alloc zCells).alloc zCells) _
  generalize (((w.alloc (.cells #[.slice Pa nv ca, .slice Pc nl cc_] 39)).alloc (.cells #[.slice none 0 0, .slice none 0 0] 39)).alloc zCells).alloc zCells = w3 at *
  obtain ⟨b, hb⟩ : ∃ b, w.heap.size + 1 + 1 + 1 = b := ⟨_, rfl⟩
  obtain ⟨r2, hr2⟩ : ∃ r, w.heap.size + 1 + 1 = r := ⟨_, rfl⟩
  obtain ⟨r1, hr1⟩ : ∃ r, w.heap.size + 1 = r := ⟨_, rfl⟩
  have HR : Hid (w.heap.size ≤ r1 ∧ r1 < r2 ∧ r2 < b ∧ b < w3.heap.size) := ⟨by omega, by omega, by omega, by rw [HSz.out]; omega⟩
  rw [hb] at HX
  rw [hr2] at HZ2
  rw [hr1] at HZ1
  simp only [hb]
  simp only [hr2]
  simp only [hr1]
  clear hr1 hr2 hb HSz
  have HCh := Lib.hid (changed_high (b := some b) (e0 := cvE o) (s' := ⟨cvL o, (l.map (·.1)).dropLast⟩) (K := fun W => CtlAt W b (cvC o)) (caps := #[.pointer (some ⟨b, 0, none⟩)]) (HA.out.keep HB3.out) (HC.out.keep HB3.out) (by have := HL.out; omega) (by have := HLL.out; omega) (k := 84) ⟨_, Tryz.func84, by kernel_rfl, by kernel_rfl⟩
    (fun W W' r' hK hr' hN hch hs => by
      obtain ⟨u, h1, h2⟩ := hK
      exact ⟨u, (hch b (lt_of_heap h1) (by have := HR.out.2.2.2; intro e; have := Option.some.inj e; omega)).trans h1, row_besideB h2 hN hch hs⟩)
    (fun hsn W B D vv cv l' hB hW hd hl' => by
      have hz := (hW.block b HR.out.2.2.2).trans HX.out
      have hll' : l'.length = l.length := by have := congrArg List.length hl'; simpa using this
      rw [← HO.out, ← hl']
      exact closed1 hd (by have := HL.out; omega) (by have := HLL.out; omega) (fun p hp => by
        have h1 := (sane_facts hsn).1 p.1 (by show p.1 ∈ l.map (·.1); rw [← hl']; exact List.mem_map_of_mem hp)
        have := mayE_len h1.2.2
        omega) (Nat.lt_of_lt_of_le HR.out.2.2.2 hB) hz) (fun x hx e => by have := HR.out.2.2.2; have := Option.some.inj e; omega))
  refine HCh.out.mono ?_
  rintro e w4 hch
  have HU : ∃ v ms mc ee, closeMade ⟨vals, l.map (·.1)⟩ o = (ms, mc, ee) ∧ e = .returned (.tuple #[v, .int .i64 ee]) ∧ (∀ W : World, (∀ k, w3.heap.size ≤ k → k < w4.heap.size → W.heap[k]? = w4.heap[k]?) → StIs elP W v ms) ∧ CtlAt w4 b mc ∧ BO w3.heap.size (some b) w3 w4 := by
    unfold closeMade
    rcases hch with ⟨h1, h2, h3⟩ | ⟨h1, h2, h3, h4, h5⟩ | ⟨h1, h2, v, h3, h4, h5, h6⟩
    · rw [if_pos h1]
      exact ⟨_, _, _, _, rfl, h2, fun W _ => zS_is W, CtlAt.zero ((h3.block b HR.out.2.2.2).trans HX.out), BO.of_below h3⟩
    · rw [if_neg (by rw [h1]; decide)]
      cases o with
      | none => exact ⟨_, _, _, _, rfl, h3, fun W _ => zS_is W, h4, h5⟩
      | some p => exact absurd rfl h2
    · rw [if_neg (by rw [h1]; decide)]
      cases o with
      | none => exact absurd h2 (by decide)
      | some p => exact ⟨_, _, _, _, rfl, h3, h4, h5, h6⟩
  obtain ⟨v, ms, mc, ee, hu, rfl, hv, ⟨u, hub, hur⟩, hbo⟩ := HU
  have HUU := Lib.hid hu
  have hz1 := (hbo.block r1 (by have := HR.out; omega) (by have := HR.out; intro e; have := Option.some.inj e; omega)).trans HZ1.out
  have hz2 := (hbo.block r2 (by have := HR.out; omega) (by have := HR.out; intro e; have := Option.some.inj e; omega)).trans HZ2.out
  have HB4 : Hid (Below w.heap.size w w4) := HB3.out.trans ⟨hbo.os, hbo.tape, hbo.output, hbo.size, fun k hk => hbo.block k (Nat.lt_of_lt_of_le hk HB3.out.size) (by have := HR.out; intro e; have := Option.some.inj e; omega)⟩
  have HS4 := Lib.hid hbo.size
  obtain ⟨P1, n1, c1, P2, n2, c2, rfl⟩ : ∃ P n c Q m d, v = .agg #[.slice P n c, .slice Q m d] := by
    obtain ⟨a, c, l9, rfl, h1, h2, _⟩ := hv w4 (fun _ _ _ => rfl)
    obtain ⟨A1, k1, rfl, _⟩ := h1.form
    obtain ⟨A2, k2, rfl, _⟩ := h2.form
    exact ⟨_, _, _, _, _, _, rfl⟩
  obtain ⟨P3, n3, c3, rfl⟩ : ∃ P n c, u = .slice P n c := by
    obtain ⟨A1, k1, e, _⟩ := hur.form
    exact ⟨_, _, _, e⟩
  have HV := Lib.hid hv
  have HB5 := Lib.hid (below_new w4 (.cells #[.slice P1 n1 c1, .slice P2 n2 c2] 39))
  have HX5 := Lib.hid (heap_new w4 (.cells #[.slice P1 n1 c1, .slice P2 n2 c2] 39))
  have HZ1' := Lib.hid ((HB5.out.block r1 (lt_of_heap hz1)).trans hz1)
  have HZ2' := Lib.hid ((HB5.out.block r2 (lt_of_heap hz2)).trans hz2)
  have HZb' := Lib.hid ((HB5.out.block b (lt_of_heap hub)).trans hub)
  have HUR := Lib.hid (hur.keep HB5.out)
  have HLT := Lib.hid (lt_of_heap hub)
  clear hz1 hz2 hub hur hv hbo hu hch HCh
  go_wp2_with fail
  generalize w4.alloc (.cells #[.slice P1 n1 c1, .slice P2 n2 c2] 39) = w7 at *
  obtain ⟨x, hx⟩ : ∃ x, w4.heap.size = x := ⟨_, rfl⟩
  rw [hx] at HX5
  simp only [hx]
  have hxb : b < x := by rw [← hx]; exact HLT.out
  obtain ⟨x0, x1⟩ : w7.cell? ⟨x, 0, none⟩ = some (.slice P1 n1 c1) ∧ w7.cell? ⟨x, 1, none⟩ = some (.slice P2 n2 c2) := ⟨(cells_at HX5.out 0).1, (cells_at HX5.out 1).1⟩
  obtain ⟨k0, k1, k2, k3⟩ : w7.cell? ⟨b, 0, none⟩ = some (.int .i64 mc.op) ∧ w7.cell? ⟨b, 1, none⟩ = some (.slice P3 n3 c3) ∧ w7.cell? ⟨b, 2, none⟩ = some (.int .i64 mc.ht) ∧ w7.cell? ⟨b, 3, none⟩ = some (.bool mc.dead) := ⟨(cells_at HZb'.out 0).1, (cells_at HZb'.out 1).1, (cells_at HZb'.out 2).1, (cells_at HZb'.out 3).1⟩
  obtain ⟨q0, q1⟩ : w7.cell? ⟨r1, 0, none⟩ = some (.slice none 0 0) ∧ w7.cell? ⟨r1, 1, none⟩ = some (.slice none 0 0) := ⟨(cells_at HZ1'.out 0).1, (cells_at HZ1'.out 1).1⟩
  obtain ⟨p0, p1⟩ : w7.frozen? ⟨r1, 0, none⟩ = false ∧ w7.frozen? ⟨r1, 1, none⟩ = false := ⟨(cells_at HZ1'.out 0).2, (cells_at HZ1'.out 1).2⟩
  obtain ⟨s0, s1, s2, s3⟩ : w7.cell? ⟨r2, 0, none⟩ = some (.int .i64 0) ∧ w7.cell? ⟨r2, 1, none⟩ = some (.slice none 0 0) ∧ w7.cell? ⟨r2, 2, none⟩ = some (.int .i64 0) ∧ w7.cell? ⟨r2, 3, none⟩ = some (.bool false) := ⟨(cells_at HZ2'.out 0).1, (cells_at HZ2'.out 1).1, (cells_at HZ2'.out 2).1, (cells_at HZ2'.out 3).1⟩
  obtain ⟨t0, t1, t2, t3⟩ : w7.frozen? ⟨r2, 0, none⟩ = false ∧ w7.frozen? ⟨r2, 1, none⟩ = false ∧ w7.frozen? ⟨r2, 2, none⟩ = false ∧ w7.frozen? ⟨r2, 3, none⟩ = false := ⟨(cells_at HZ2'.out 0).2, (cells_at HZ2'.out 1).2, (cells_at HZ2'.out 2).2, (cells_at HZ2'.out 3).2⟩
  have d1 : b ≠ r1 := by have := HR.out; omega
  have d2 : b ≠ r2 := by have := HR.out; omega
  have d3 : x ≠ r1 := by have := HR.out; omega
  have d4 : x ≠ r2 := by have := HR.out; omega
  have d5 : r2 ≠ r1 := by have := HR.out; omega
  have d6 : r1 ≠ r2 := by have := HR.out; omega
  clear hx hxb
  go_region
  clear d1 d2 d3 d4 d5 x0 x1 k0 k1 k2 k3 q0 q1 p0 p1 s0 s1 s2 s3 t0 t1 t2 t3
  have HC1 := Lib.hid (chg2 w7 r1 (.slice P1 n1 c1) (.slice P2 n2 c2))
  have HZ18 := Lib.hid (set_heap (i := 1) (set_heap (i := 0) HZ1'.out (.slice P1 n1 c1)) (.slice P2 n2 c2))
  have HB8 := Lib.hid (((HB4.out.trans (HB5.out.mono HB4.out.size)).setCell (p := ⟨r1, 0, none⟩) HR.out.1 (.slice P1 n1 c1)).setCell (p := ⟨r1, 1, none⟩) HR.out.1 (.slice P2 n2 c2))
  have HN8 : Hid (((w7.setCell ⟨r1, 0, none⟩ (.slice P1 n1 c1)).setCell ⟨r1, 1, none⟩ (.slice P2 n2 c2)).heap.size = w7.heap.size) := by show _ = _; rw [set_size, set_size]
  generalize (w7.setCell ⟨r1, 0, none⟩ (.slice P1 n1 c1)).setCell ⟨r1, 1, none⟩ (.slice P2 n2 c2) = w8 at *
  have HU8 := Lib.hid (row_besideB HUR.out (noint2 HZ1'.out) HC1.out (Nat.le_of_eq HN8.out.symm))
  have HZ28 := Lib.hid ((HC1.out r2 (lt_of_heap HZ2'.out) (by intro e; exact d6 (Option.some.inj e).symm)).trans HZ2'.out)
  have HC2 := Lib.hid (chg4 w8 r2 (.int .i64 mc.op) (.slice P3 n3 c3) (.int .i64 mc.ht) (.bool mc.dead))
  have HZ29 := Lib.hid (set4_heap HZ28.out (.int .i64 mc.op) (.slice P3 n3 c3) (.int .i64 mc.ht) (.bool mc.dead) rfl)
  have hR2 : w.heap.size ≤ r2 := by have := HR.out; omega
  have HB9 := Lib.hid (((((HB8.out.setCell (p := ⟨r2, 0, none⟩) hR2 (.int .i64 mc.op)).setCell (p := ⟨r2, 1, none⟩) hR2 (.slice P3 n3 c3)).setCell (p := ⟨r2, 2, none⟩) hR2 (.int .i64 mc.ht)).setCell (p := ⟨r2, 3, none⟩) hR2 (.bool mc.dead)).drew)
  have HN9 : Hid (((((w8.setCell ⟨r2, 0, none⟩ (.int .i64 mc.op)).setCell ⟨r2, 1, none⟩ (.slice P3 n3 c3)).setCell ⟨r2, 2, none⟩ (.int .i64 mc.ht)).setCell ⟨r2, 3, none⟩ (.bool mc.dead)).heap.size = w8.heap.size) := by show _ = _; rw [set_size, set_size, set_size, set_size]
  generalize (((w8.setCell ⟨r2, 0, none⟩ (.int .i64 mc.op)).setCell ⟨r2, 1, none⟩ (.slice P3 n3 c3)).setCell ⟨r2, 2, none⟩ (.int .i64 mc.ht)).setCell ⟨r2, 3, none⟩ (.bool mc.dead) = w9 at *
  have HU9 := Lib.hid ((row_besideU HU8.out (nou8_4 HZ28.out) HC2.out (Nat.le_of_eq HN9.out.symm)).keep (below_drew1 w9))
  have HZ19 := (HC2.out r1 (lt_of_heap HZ18.out) (by intro e; exact d6 (Option.some.inj e))).trans HZ18.out
  have HV9 : Hid (StIs elP w9.drew (.agg #[.slice P1 n1 c1, .slice P2 n2 c2]) ms) := HV.out w9.drew fun k h1 h2 => by
    show w9.heap[k]? = _
    have hs := HS4.out
    have h7 : k < w7.heap.size := Nat.lt_of_lt_of_le h2 HB5.out.size
    rw [HC2.out k (by rw [HN8.out]; exact h7) (by intro e; have := Option.some.inj e; have := HR.out; omega), HC1.out k h7 (by intro e; have := Option.some.inj e; have := HR.out; omega)]
    exact HB5.out.block k h2
  have y0 : w9.drew.cell? ⟨r1, 0, none⟩ = some (.slice P1 n1 c1) := (cells_at HZ19 0).1
  have y1 : w9.drew.cell? ⟨r1, 1, none⟩ = some (.slice P2 n2 c2) := (cells_at HZ19 1).1
  have z0 : w9.drew.cell? ⟨r2, 0, none⟩ = some (.int .i64 mc.op) := (cells_at HZ29.out 0).1
  have z1 : w9.drew.cell? ⟨r2, 1, none⟩ = some (.slice P3 n3 c3) := (cells_at HZ29.out 1).1
  have z2 : w9.drew.cell? ⟨r2, 2, none⟩ = some (.int .i64 mc.ht) := (cells_at HZ29.out 2).1
  have z3 : w9.drew.cell? ⟨r2, 3, none⟩ = some (.bool mc.dead) := (cells_at HZ29.out 3).1
  clear HZ19 hR2 d6
  generalize w9.drew = w10 at *
  go_wp2_with fail
  refine bodyPost_ret (v := .tuple #[.agg #[.slice P1 n1 c1, .slice P2 n2 c2], .agg #[.int .i64 mc.op, .slice P3 n3 c3, .int .i64 mc.ht, .bool mc.dead], .int .i64 ee]) (by simp [results, Tryz.results52, go_sem, y0, y1, z0, z1, z2, z3]) rfl ⟨⟨_, _, by rw [HUU.out], by rw [HUU.out]; exact HV9.out, by rw [HUU.out]; exact HU9.out⟩, HB9.out⟩
end Go.Proofs.YtlappkflnlbfcaaGreatDoor.Stk
end

section
/- The program's Label, walked. -/
namespace Go.Proofs.YtlappkflnlbfcaaGreatDoor.Stk
open Go.RowKit Row9
set_option maxRecDepth 100000
set_option maxHeartbeats 2000000
set_option linter.unusedVariables false
def LabTold (r : List Int × Int) (w : World) (e : Ending) (w' : World) : Prop := (∃ v, e = .returned (.tuple #[v, .int .i64 r.2]) ∧ Row elB w' v r.1) ∧ Below w.heap.size w w'
theorem label_no {s : Stk} {n : Int} (h : sane s = false) : labelS s n = ([], 1) := by unfold labelS; rw [if_pos h]
theorem label_out {s : Stk} {n : Int} (h : sane s = true) (hn : n < 0 ∨ (s.cs.length : Int) ≤ n) : labelS s n = ([], 6) := by unfold labelS; rw [if_neg (by rw [h]; decide), if_pos hn]
theorem label_at {s : Stk} {n : Int} {c : Ctl} {k : Nat} (h : sane s = true) (hn : ¬ (n < 0 ∨ (s.cs.length : Int) ≤ n)) (hk : (k : Int) = s.cs.length - 1 - n) (hc : s.cs[k]? = some c) : labelS s n = if c.op = 3 then ([], 0) else (c.fin, 0) := by
  unfold labelS
  rw [if_neg (by rw [h]; decide), if_neg hn, show s.cs.length - 1 - n.toNat = k from by omega, hc]
theorem Label_any {a c : Value} {vals : List Int} {l : List CtV} {n : Int} {w : World} (ha : Row elB w a vals) (hc : Row elP w c l) (hn : w64 n) (hll : l.length ≤ 400000) (hel : ∀ p ∈ l, p.1.fin.length ≤ 1000000) :
    Calls Tryz.prog 157 #[.agg #[a, c], .int .i64 n] w (LabTold (labelS ⟨vals, l.map (·.1)⟩ n) w) := by
  have HC := Lib.hid hc
  have HB0 := Lib.hid (below_new w (.cells #[a, c] 39))
  have HS := Lib.hid (sane_any (ha.keep HB0.out) (hc.keep HB0.out))
  have HX := Lib.hid (fun W (hW : Below (w.alloc (.cells #[a, c] 39)).heap.size (w.alloc (.cells #[a, c] 39)) W) => box2_keep hW)
  obtain ⟨Pa, ca, rfl, _⟩ := ha.form
  obtain ⟨Pc, cc_, rfl, _⟩ := hc.form
  obtain ⟨nv, hnv⟩ : ∃ n, vals.length = n := ⟨_, rfl⟩
  obtain ⟨nl, hnl⟩ : ∃ n, l.length = n := ⟨_, rfl⟩
  have HNL := Lib.hid hnl
  have hml : (l.map (·.1)).length = nl := by rw [List.length_map, hnl]
  have HML := Lib.hid hml
  rw [hnv] at HB0 HS HX ⊢
  rw [hnl] at HB0 HS HX HC hll ⊢
  obtain ⟨R, hR⟩ : ∃ R, labelS ⟨vals, l.map (·.1)⟩ n = R := ⟨_, rfl⟩
  have HR := Lib.hid hR
  have HEL := Lib.hid hel
  rw [hR]
  clear ha hc hnv hnl hml hR hel
  cases hs : sane ⟨vals, l.map (·.1)⟩ with
  | false =>
    have HQ : Hid (R = ([], 1)) := HR.out.symm.trans (label_no hs)
    rw [hs] at HS
    clear hs
    go_enter Tryz.func157, Tryz.ntmps157
    go_wp2_with fail
    refine HS.out.mono ?_
    rintro e w1 ⟨rfl, hb⟩
    have HB1 := Lib.hid (HB0.out.trans (hb.mono HB0.out.size))
    clear hb HS
    go_wp2_with fail
    refine bodyPost_ret (v := .tuple #[.slice none 0 0, .int .i64 1]) (by simp [results, Tryz.results157, go_sem]) rfl ?_
    rw [HQ.out]
    exact ⟨⟨_, rfl, Row.nil _ _⟩, HB1.out⟩
  | true =>
    have HSN := Lib.hid hs
    rw [hs] at HS
    clear hs
    by_cases h0 : n < 0
    · have HQ : Hid (R = ([], 6)) := HR.out.symm.trans (label_out HSN.out (.inl h0))
      have t1 : decide (n < 0) = true := decide_eq_true h0
      clear h0
      go_enter Tryz.func157, Tryz.ntmps157
      go_wp2_with fail
      refine HS.out.mono ?_
      rintro e w1 ⟨rfl, hb⟩
      have HB1 := Lib.hid (HB0.out.trans (hb.mono HB0.out.size))
      clear hb HS
      go_wp2_with fail
      refine bodyPost_ret (v := .tuple #[.slice none 0 0, .int .i64 6]) (by simp [results, Tryz.results157, go_sem]) rfl ?_
      rw [HQ.out]
      exact ⟨⟨_, rfl, Row.nil _ _⟩, HB1.out⟩
    · have t1 : decide (n < 0) = false := decide_eq_false h0
      by_cases h1 : (nl : Int) ≤ n
      · have HQ : Hid (R = ([], 6)) := HR.out.symm.trans (label_out HSN.out (.inr (by show ((l.map (·.1)).length : Int) ≤ n; rw [HML.out]; exact h1)))
        have t2 : decide ((nl : Int) ≤ n) = true := decide_eq_true h1
        clear h0 h1
        go_enter Tryz.func157, Tryz.ntmps157
        go_wp2_with fail
        refine HS.out.mono ?_
        rintro e w1 ⟨rfl, hb⟩
        have HB1 := Lib.hid (HB0.out.trans (hb.mono HB0.out.size))
        obtain ⟨x0, x1⟩ := HX.out w1 hb
        clear hb HS
        go_wp2_with fail
        refine bodyPost_ret (v := .tuple #[.slice none 0 0, .int .i64 6]) (by simp [results, Tryz.results157, go_sem]) rfl ?_
        rw [HQ.out]
        exact ⟨⟨_, rfl, Row.nil _ _⟩, HB1.out⟩
      · have t2 : decide ((nl : Int) ≤ n) = false := decide_eq_false h1
        obtain ⟨k, hk⟩ : ∃ k : Nat, (k : Int) = nl - 1 - n := ⟨((nl : Int) - 1 - n).toNat, by omega⟩
        have hkl : k < nl := by omega
        obtain ⟨p, hp⟩ : ∃ p, l[k]? = some p := ⟨_, List.getElem?_eq_getElem (by rw [HNL.out]; exact hkl)⟩
        have hp' : (l.map (·.1))[k]? = some p.1 := by rw [List.getElem?_map, hp]; rfl
        have hq := HR.out.symm.trans (label_at HSN.out (by show ¬ (n < 0 ∨ ((l.map (·.1)).length : Int) ≤ n); rw [HML.out]; omega) (by show (k : Int) = ((l.map (·.1)).length : Int) - 1 - n; rw [HML.out]; exact hk) hp')
        have HP := Lib.hid hp
        have e1 : IntKind.i64.wrap ((nl : Int) - 1) = (nl : Int) - 1 := IntWalk.i64_in _ (by omega)
        have e2 : IntKind.i64.wrap ((nl : Int) - 1 - n) = (k : Int) := by rw [IntWalk.i64_in _ (by omega)]; omega
        have i1 : (0 : Int) ≤ (k : Int) := by omega
        have i2 : (k : Int) < (nl : Int) := by omega
        obtain ⟨op, hop⟩ : ∃ op, p.1.op = op := ⟨_, rfl⟩
        rw [hop] at hq
        have HOP := Lib.hid hop
        cases h3 : (op == 3) with
        | true =>
          have HQ : Hid (R = ([], 0)) := by show _ = _; rw [hq, if_pos (by simpa using h3)]
          clear h0 h1 hk hkl hp hp' hq hop
          go_enter Tryz.func157, Tryz.ntmps157
          go_wp2_with fail
          refine HS.out.mono ?_
          rintro e w1 ⟨rfl, hb⟩
          have HB1 := Lib.hid (HB0.out.trans (hb.mono HB0.out.size))
          obtain ⟨x0, x1⟩ := HX.out w1 hb
          obtain ⟨g, off, rfl, hg, k0, k1, k2, k3, hO⟩ := ctl_at (HC.out.keep HB1.out) HP.out
          obtain ⟨Pe, ce, hpe, _⟩ := hO.1.form
          rw [HOP.out] at k0
          rw [hpe] at k1
          obtain ⟨qq, hqq⟩ : ∃ qq, off + k * 4 = qq := ⟨_, rfl⟩
          rw [hqq] at k0 k1 k2 k3
          clear hb HS hg hO hpe
          go_wp2_with fail
          refine bodyPost_ret (v := .tuple #[.slice none 0 0, .int .i64 0]) (by simp [results, Tryz.results157, go_sem]) rfl ?_
          rw [HQ.out]
          exact ⟨⟨_, rfl, Row.nil _ _⟩, HB1.out.alloc HB1.out.size _⟩
        | false =>
          have HQ : Hid (R = (p.1.fin, 0)) := by show _ = _; rw [hq, if_neg (by simpa using h3)]
          clear h0 h1 hk hkl hp hp' hq hop
          go_enter Tryz.func157, Tryz.ntmps157
          go_wp2_with fail
          refine HS.out.mono ?_
          rintro e w1 ⟨rfl, hb⟩
          have HB1 := Lib.hid (HB0.out.trans (hb.mono HB0.out.size))
          obtain ⟨x0, x1⟩ := HX.out w1 hb
          obtain ⟨g, off, rfl, hg, k0, k1, k2, k3, hO⟩ := ctl_at (HC.out.keep HB1.out) HP.out
          obtain ⟨Pe, ce, hpe, _⟩ := hO.1.form
          obtain ⟨ht, hht⟩ : ∃ ht, p.1.ht = ht := ⟨_, rfl⟩
          obtain ⟨dd, hdd⟩ : ∃ dd, p.1.dead = dd := ⟨_, rfl⟩
          obtain ⟨ne, hne⟩ : ∃ ne, p.1.fin.length = ne := ⟨_, rfl⟩
          rw [hne] at hpe
          rw [HOP.out] at k0
          rw [hht] at k2
          rw [hdd] at k3
          obtain ⟨qq, hqq⟩ : ∃ qq, off + k * 4 = qq := ⟨_, rfl⟩
          rw [hqq] at k0 k1 k2 k3
          rw [hpe] at k1
          have HBn := Lib.hid (below_new w1 (.cells #[.int .i64 op, .slice Pe ne ce, .int .i64 ht, .bool dd] 72))
          have HCl := Lib.hid (clone_any (hO.1.keep HBn.out) (HEL.out p (List.mem_of_getElem? HP.out)))
          rw [hpe] at HCl
          clear hb HS hg hO hpe hht hdd hne
          go_wp2_with fail
          refine HCl.out.mono ?_
          rintro e w2 ⟨⟨v, rfl, ho⟩, hb2⟩
          have HRw := Lib.hid (ho.row (fun x hx => ((HC.out.2 p (List.mem_of_getElem? HP.out)).1.2 x hx)))
          have HB2 := Lib.hid ((HB1.out.trans (HBn.out.mono HB1.out.size)).trans (hb2.mono (HB1.out.trans (HBn.out.mono HB1.out.size)).size))
          obtain ⟨Pv, cv, rfl, _⟩ := HRw.out.form
          clear ho hb2
          go_wp2_with fail
          refine bodyPost_ret (v := .tuple #[.slice Pv p.1.fin.length cv, .int .i64 0]) (by simp [results, Tryz.results157, go_sem]) rfl ?_
          rw [HQ.out]
          exact ⟨⟨_, rfl, HRw.out⟩, HB2.out⟩
end Go.Proofs.YtlappkflnlbfcaaGreatDoor.Stk
end

section
/- Acts: plain, and in memory; what they make of a stack; few. -/
namespace Go.Proofs.YtlappkflnlbfcaaGreatDoor.Stk
open Go.RowKit Row9
set_option maxRecDepth 100000
set_option maxHeartbeats 2000000
set_option linter.unusedVariables false
theorem pushS_is (s : Stk) (l : List Int) : pushS s l = made s (pe l) ⟨s.vals ++ l, s.cs⟩ := by
  unfold pushS made pe
  split
  · rfl
  · cases l.any noT <;> rfl
theorem wantS_is (s : Stk) (l : List Int) : wantS s l = made s (we (wantV s.cs.getLast? s.vals l.reverse)) ⟨(wantV s.cs.getLast? s.vals l.reverse).getD [], s.cs⟩ := by
  unfold wantS made
  split
  · rfl
  · cases wantV s.cs.getLast? s.vals l.reverse <;> rfl
theorem openS_is (s : Stk) (op : Int) (l : List Int) : openS s op l = made s (oe l) ⟨s.vals, s.cs ++ [⟨op, l, s.vals.length, false⟩]⟩ := by
  unfold openS made oe
  split
  · rfl
  · cases mayE l <;> rfl
theorem killS_is (s : Stk) : killS s = made s (ke s.cs) ⟨s.vals.take (kh s.cs), s.cs.dropLast ++ kd s.cs⟩ := by
  unfold killS made ke kh kd
  split
  · rfl
  · cases s.cs.getLast? <;> rfl
/-- One thing that is done: what, a code, types. -/
structure Act9 where
  what : Int
  op : Int
  L : List Int
/-- What an act makes of a stack. -/
def act (s : Stk) (a : Act9) : Stk × Int :=
  if a.what = 0 ∨ a.what = 1 then pushS s a.L else if a.what = 2 then ((popS s).1, (popS s).2.2) else if a.what = 3 ∨ a.what = 4 then wantS s a.L else if a.what = 5 then openS s a.op a.L else if a.what = 6 then ((closeS s).1, (closeS s).2.2) else if a.what = 7 then killS s else (s, 1)
def stepA (s : Stk) (a : Act9) : Stk := if (act s a).2 = 0 then (act s a).1 else s
def grow (l : List Act9) : Stk := l.foldl stepA none_
theorem popV_le {o : Option Ctl} {vals vs : List Int} {v : Int} (h : popV o vals = some (vs, v)) : vs.length ≤ vals.length := popV_len h
theorem wantV_le : ∀ (r : List Int) {o : Option Ctl} {vals vs : List Int}, wantV o vals r = some vs → vs.length ≤ vals.length
  | [], o, vals, vs, h => by
    obtain rfl : vals = vs := Option.some.inj h
    exact Nat.le_refl _
  | x :: r, o, vals, vs, h => by
    rw [wantV] at h
    split at h
    · cases h
    · rename_i vs1 v hp
      split at h
      · have := wantV_le r h
        have := popV_len hp
        omega
      · cases h
theorem made_le {s s' : Stk} {e0 : Int} {n m : Nat} (hv : s'.vals.length ≤ n) (hc : s'.cs.length ≤ m) : (made s e0 s').1.vals.length ≤ n ∧ (made s e0 s').1.cs.length ≤ m := by
  unfold made
  split
  · exact ⟨Nat.zero_le _, Nat.zero_le _⟩
  · split
    · exact ⟨hv, hc⟩
    · exact ⟨Nat.zero_le _, Nat.zero_le _⟩
theorem act_le (s : Stk) (a : Act9) : (act s a).1.vals.length ≤ s.vals.length + a.L.length ∧ (act s a).1.cs.length ≤ s.cs.length + 1 := by
  unfold act
  split
  · rw [pushS_is]
    exact made_le (by simp) (by simp)
  · split
    · rw [popS_is]
      unfold popMade
      split
      · exact ⟨Nat.zero_le _, Nat.zero_le _⟩
      · cases h : popV s.cs.getLast? s.vals with
        | none => exact ⟨Nat.zero_le _, Nat.zero_le _⟩
        | some p =>
          obtain ⟨vs, v⟩ := p
          have := popV_len h
          exact ⟨by show vs.length ≤ _; omega, by show s.cs.length ≤ _; omega⟩
    · split
      · rw [wantS_is]
        refine made_le ?_ (by simp)
        cases h : wantV s.cs.getLast? s.vals a.L.reverse with
        | none => simp
        | some vs => have := wantV_le _ h; show vs.length ≤ _; omega
      · split
        · rw [openS_is]
          exact made_le (by simp) (by simp)
        · split
          · rw [closeS_is]
            unfold closeMade
            split
            · exact ⟨Nat.zero_le _, Nat.zero_le _⟩
            · cases h : closeV s.vals s.cs with
              | none => exact ⟨Nat.zero_le _, Nat.zero_le _⟩
              | some p =>
                obtain ⟨vs, c⟩ := p
                have hl : vs.length ≤ s.vals.length := by
                  unfold closeV at h
                  split at h
                  · cases h
                  · split at h
                    · cases h
                    · rename_i hw
                      split at h
                      · cases h
                      · simp only [Option.some.injEq, Prod.mk.injEq] at h
                        have := wantV_le _ hw
                        rw [← h.1]
                        exact this
                exact ⟨by show vs.length ≤ _; omega, by show s.cs.dropLast.length ≤ _; rw [List.length_dropLast]; omega⟩
          · split
            · rw [killS_is]
              refine made_le (by rw [List.length_take]; omega) ?_
              rw [List.length_append, List.length_dropLast]
              unfold kd
              cases h : s.cs.getLast? with
              | none => show s.cs.length - 1 + 0 ≤ _; omega
              | some c => show s.cs.length - 1 + 1 ≤ _; omega
            · exact ⟨by show s.vals.length ≤ _; omega, by show s.cs.length ≤ _; omega⟩
end Go.Proofs.YtlappkflnlbfcaaGreatDoor.Stk
end

section
/- What things that are done make of a stack of nothing, walked. -/
namespace Go.Proofs.YtlappkflnlbfcaaGreatDoor.Stk
open Go.RowKit Row9
set_option maxRecDepth 100000
set_option maxHeartbeats 20000000
set_option linter.unusedVariables false
theorem StIs.form {T : El CtV} {w : World} {v : Value} {s : Stk} (h : StIs T w v s) : ∃ P n c Q m d, v = .agg #[.slice P n c, .slice Q m d] := by
  obtain ⟨a, c, l, rfl, ha, hc, hl⟩ := h
  obtain ⟨P, k, rfl, _⟩ := ha.form
  obtain ⟨Q, d, rfl, _⟩ := hc.form
  exact ⟨_, _, _, _, _, _, rfl⟩
/-- A stack stays where another is stored in a variable of two slices. -/
theorem StIs.beside {e : TypeId} {hi} {w w' : World} {r : Nat} {v : Value} {s : Stk} (h : StIs (elCt e hi) w v s) (hr : NoInt w r) (hc : Chg w w' (some r)) (hs : w.heap.size ≤ w'.heap.size) : StIs (elCt e hi) w' v s := by
  obtain ⟨a, c, l, h1, h2, h3, h4⟩ := h
  exact ⟨a, c, l, h1, row_besideB h2 hr hc hs, row_besideC h3 hr hc hs, h4⟩
/-- A stack in a variable. -/
def StAt (T : El CtV) (w : World) (b : Nat) (s : Stk) : Prop := ∃ P n c Q m d, w.heap[b]? = some (.cells #[.slice P n c, .slice Q m d] 39 (0, 0)) ∧ StIs T w (.agg #[.slice P n c, .slice Q m d]) s
theorem StAt.keep {T : El CtV} {w w' : World} {b : Nat} {s : Stk} (h : StAt T w b s) (hb : Below w.heap.size w w') : StAt T w' b s := by
  obtain ⟨P, n, c, Q, m, d, h1, h2⟩ := h
  exact ⟨P, n, c, Q, m, d, (hb.block b (lt_of_heap h1)).trans h1, h2.keep hb⟩
theorem OpTold.of {r : Stk × Int} {w w' : World} {e : Ending} (h : OpTold r w e w') : ∃ P n c Q m d, e = .returned (.tuple #[.agg #[.slice P n c, .slice Q m d], .int .i64 r.2]) ∧ StIs elP w' (.agg #[.slice P n c, .slice Q m d]) r.1 ∧ Below w.heap.size w w' := by
  obtain ⟨⟨v, rfl, hv⟩, hb⟩ := h
  obtain ⟨P, n, c, Q, m, d, rfl⟩ := hv.form
  exact ⟨P, n, c, Q, m, d, rfl, hv, hb⟩
theorem PopEnds.of {r : Stk × Int × Int} {w w' : World} {e : Ending} (h : PopEnds r w e w') : ∃ P n c Q m d, e = .returned (.tuple #[.agg #[.slice P n c, .slice Q m d], .int .u8 r.2.1, .int .i64 r.2.2]) ∧ StIs elP w' (.agg #[.slice P n c, .slice Q m d]) r.1 ∧ Below w.heap.size w w' := by
  obtain ⟨⟨v, rfl, hv⟩, hb⟩ := h
  obtain ⟨P, n, c, Q, m, d, rfl⟩ := hv.form
  exact ⟨P, n, c, Q, m, d, rfl, hv, hb⟩
theorem CloseEnds.of {r : Stk × Ctl × Int} {w w' : World} {e : Ending} (h : CloseEnds r w e w') : ∃ P n c Q m d R k f, e = .returned (.tuple #[.agg #[.slice P n c, .slice Q m d], .agg #[.int .i64 r.2.1.op, .slice R k f, .int .i64 r.2.1.ht, .bool r.2.1.dead], .int .i64 r.2.2]) ∧ StIs elP w' (.agg #[.slice P n c, .slice Q m d]) r.1 ∧ Row elB w' (.slice R k f) r.2.1.fin ∧ Below w.heap.size w w' := by
  obtain ⟨⟨v, u, rfl, hv, hu⟩, hb⟩ := h
  obtain ⟨P, n, c, Q, m, d, rfl⟩ := hv.form
  obtain ⟨R, f, rfl, _⟩ := hu.form
  exact ⟨P, n, c, Q, m, d, _, _, _, rfl, hv, hu, hb⟩
/-- The program's calls, of a stack as a value. -/
theorem Push_st {v x : Value} {s : Stk} {xs : List Int} {w : World} (h : StIs elP w v s) (hx : Row elB w x xs) (h1 : s.vals.length ≤ 400000) (h2 : s.cs.length ≤ 400000) (h3 : xs.length ≤ 400000) : Calls Tryz.prog 150 #[v, x] w (OpTold (pushS s xs) w) := by
  obtain ⟨a, c, l, rfl, ha, hc, hl⟩ := h
  rw [pushS_is]
  obtain ⟨vals, cs⟩ := s
  subst hl
  exact Push_any ha hc hx h3 h1 (by simpa using h2)
theorem Want_st {v x : Value} {s : Stk} {xs : List Int} {w : World} (h : StIs elP w v s) (hx : Row elB w x xs) (h1 : s.vals.length ≤ 400000) (h2 : s.cs.length ≤ 400000) (h3 : xs.length ≤ 400000) : Calls Tryz.prog 152 #[v, x] w (OpTold (wantS s xs) w) := by
  obtain ⟨a, c, l, rfl, ha, hc, hl⟩ := h
  rw [wantS_is]
  obtain ⟨vals, cs⟩ := s
  subst hl
  exact Want_any ha hc hx h3 h1 (by simpa using h2)
theorem Open_st {v x : Value} {s : Stk} {xs : List Int} {op : Int} {w : World} (h : StIs elP w v s) (hx : Row elB w x xs) (ho : w64 op) (h1 : s.vals.length ≤ 400000) (h2 : s.cs.length ≤ 400000) (h3 : xs.length ≤ 400000) : Calls Tryz.prog 111 #[v, .int .i64 op, x] w (OpTold (openS s op xs) w) := by
  obtain ⟨a, c, l, rfl, ha, hc, hl⟩ := h
  rw [openS_is]
  obtain ⟨vals, cs⟩ := s
  subst hl
  exact Open_any ha hc hx h3 ho h1 (by simpa using h2)
theorem Kill_st {v : Value} {s : Stk} {w : World} (h : StIs elP w v s) (h1 : s.vals.length ≤ 400000) (h2 : s.cs.length ≤ 400000) : Calls Tryz.prog 149 #[v] w (OpTold (killS s) w) := by
  obtain ⟨a, c, l, rfl, ha, hc, hl⟩ := h
  rw [killS_is]
  obtain ⟨vals, cs⟩ := s
  subst hl
  exact Kill_any ha hc h1 (by simpa using h2)
theorem Pop_st {v : Value} {s : Stk} {w : World} (h : StIs elP w v s) (h1 : s.vals.length ≤ 400000) (h2 : s.cs.length ≤ 400000) : Calls Tryz.prog 153 #[v] w (PopEnds (popS s) w) := by
  obtain ⟨a, c, l, rfl, ha, hc, hl⟩ := h
  obtain ⟨vals, cs⟩ := s
  subst hl
  exact Pop_any ha hc h1 (by simpa using h2)
theorem Close_st {v : Value} {s : Stk} {w : World} (h : StIs elP w v s) (h1 : s.vals.length ≤ 400000) (h2 : s.cs.length ≤ 400000) : Calls Tryz.prog 52 #[v] w (CloseEnds (closeS s) w) := by
  obtain ⟨a, c, l, rfl, ha, hc, hl⟩ := h
  obtain ⟨vals, cs⟩ := s
  subst hl
  exact Close_any ha hc h1 (by simpa using h2)
theorem Sane_st {v : Value} {s : Stk} {w : World} (h : StIs elP w v s) : Calls Tryz.prog 26 #[v] w fun e w' => e = .returned (.bool (sane s)) ∧ Below w.heap.size w w' := by
  obtain ⟨a, c, l, rfl, ha, hc, hl⟩ := h
  obtain ⟨vals, cs⟩ := s
  subst hl
  exact sane_any ha hc
theorem act_push {s : Stk} {a : Act9} (h : a.what = 0 ∨ a.what = 1) : act s a = pushS s a.L := by unfold act; rw [if_pos h]
theorem act_pop {s : Stk} {a : Act9} (h : a.what = 2) : act s a = ((popS s).1, (popS s).2.2) := by unfold act; rw [if_neg (by omega), if_pos h]
theorem act_want {s : Stk} {a : Act9} (h : a.what = 3 ∨ a.what = 4) : act s a = wantS s a.L := by unfold act; rw [if_neg (by omega), if_neg (by omega), if_pos h]
theorem act_open {s : Stk} {a : Act9} (h : a.what = 5) : act s a = openS s a.op a.L := by unfold act; rw [if_neg (by omega), if_neg (by omega), if_neg (by omega), if_pos h]
theorem act_close {s : Stk} {a : Act9} (h : a.what = 6) : act s a = ((closeS s).1, (closeS s).2.2) := by unfold act; rw [if_neg (by omega), if_neg (by omega), if_neg (by omega), if_neg (by omega), if_pos h]
theorem act_kill {s : Stk} {a : Act9} (h : a.what = 7) : act s a = killS s := by unfold act; rw [if_neg (by omega), if_neg (by omega), if_neg (by omega), if_neg (by omega), if_neg (by omega), if_pos h]
def GrEnds (s : Stk) (w : World) (e : Ending) (w' : World) : Prop := (∃ P n c Q m d, e = .returned (.agg #[.slice P n c, .slice Q m d]) ∧ StIs elP w' (.agg #[.slice P n c, .slice Q m d]) s) ∧ Below w.heap.size w w'
end Go.Proofs.YtlappkflnlbfcaaGreatDoor.Stk
end
