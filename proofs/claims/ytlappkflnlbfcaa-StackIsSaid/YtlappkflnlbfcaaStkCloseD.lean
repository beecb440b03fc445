/- The program's Close, walked to its end. -/
import Derived.Test.YtlappkflnlbfcaaStkCloseC
namespace Go.Proofs.Ytlappkflnlbfcaa.Stk
open Go.RowKit Row9
set_option maxRecDepth 100000
set_option maxHeartbeats 2000000
set_option linter.unusedVariables false
def CloseEnds (r : Stk × Ctl × Int) (w : World) (e : Ending) (w' : World) : Prop := (∃ v u, e = .returned (.tuple #[v, .agg #[.int .i64 r.2.1.op, u, .int .i64 r.2.1.ht, .bool r.2.1.dead], .int .i64 r.2.2]) ∧ StIs elP w' v r.1 ∧ Row elB w' u r.2.1.fin) ∧ Below w.heap.size w w'
theorem Close_any {a c : Value} {vals : List Int} {l : List CtV} {w : World} (ha : Row elB w a vals) (hc : Row elP w c l) (hvl : vals.length ≤ 400000) (hll : l.length ≤ 400000) :
    Calls Try.prog 17 #[.agg #[a, c]] w (CloseEnds (closeS ⟨vals, l.map (·.1)⟩) w) := by
  have hmf := mkf
  have HA := Lib.hid ha
  have HC := Lib.hid hc
  have HL := Lib.hid hvl
  have HLL := Lib.hid hll
  obtain ⟨Pa, ca, rfl, y1, y2⟩ := ha.form
  obtain ⟨Pc, cc_, rfl, y3, y4⟩ := hc.form
  obtain ⟨nv, hnv⟩ : ∃ n, vals.length = n := ⟨_, rfl⟩
  obtain ⟨nl, hnl⟩ : ∃ n, l.length = n := ⟨_, rfl⟩
  rw [closeS_is]
  obtain ⟨o, ho⟩ : ∃ o, closeV vals (l.map (·.1)) = o := ⟨_, rfl⟩
  have HO := Lib.hid ho
  show Calls _ _ _ _ (CloseEnds (closeMade ⟨vals, l.map (·.1)⟩ (closeV vals (l.map (·.1)))) w)
  rw [ho]
  rw [hnv] at HA ⊢
  rw [hnl] at HC ⊢
  have HNL := Lib.hid hnl
  have HB3 := Lib.hid (below4 w (.cells #[.slice Pa nv ca, .slice Pc nl cc_] 30) (.cells #[.slice none 0 0, .slice none 0 0] 30) zCells zCells)
  have HSz : Hid (((((w.alloc (.cells #[.slice Pa nv ca, .slice Pc nl cc_] 30)).alloc (.cells #[.slice none 0 0, .slice none 0 0] 30)).alloc zCells).alloc zCells).heap.size = w.heap.size + 1 + 1 + 1 + 1) := by
    show _ = _
    rw [size_new, size_new, size_new, size_new]
  have HZ1 : Hid (((((w.alloc (.cells #[.slice Pa nv ca, .slice Pc nl cc_] 30)).alloc (.cells #[.slice none 0 0, .slice none 0 0] 30)).alloc zCells).alloc zCells).heap[w.heap.size + 1]? = some (.cells #[.slice none 0 0, .slice none 0 0] 30 (0, 0))) := by
    show _ = _
    rw [(below2 ((w.alloc (.cells #[.slice Pa nv ca, .slice Pc nl cc_] 30)).alloc (.cells #[.slice none 0 0, .slice none 0 0] 30)) zCells zCells).block (w.heap.size + 1) (by simp only [size_new]; omega)]
    have := heap_new (w.alloc (.cells #[.slice Pa nv ca, .slice Pc nl cc_] 30)) (.cells #[.slice none 0 0, .slice none 0 0] 30)
    rw [size_new] at this
    exact this
  have HZ2 : Hid (((((w.alloc (.cells #[.slice Pa nv ca, .slice Pc nl cc_] 30)).alloc (.cells #[.slice none 0 0, .slice none 0 0] 30)).alloc zCells).alloc zCells).heap[w.heap.size + 1 + 1]? = some zCells) := by
    show _ = _
    rw [(below_new (((w.alloc (.cells #[.slice Pa nv ca, .slice Pc nl cc_] 30)).alloc (.cells #[.slice none 0 0, .slice none 0 0] 30)).alloc zCells) zCells).block (w.heap.size + 1 + 1) (by simp only [size_new]; omega)]
    have := heap_new ((w.alloc (.cells #[.slice Pa nv ca, .slice Pc nl cc_] 30)).alloc (.cells #[.slice none 0 0, .slice none 0 0] 30)) zCells
    rw [size_new, size_new] at this
    exact this
  have HX := Lib.hid (heap_new (((w.alloc (.cells #[.slice Pa nv ca, .slice Pc nl cc_] 30)).alloc (.cells #[.slice none 0 0, .slice none 0 0] 30)).alloc zCells) zCells)
  simp only [size_new] at HX
  clear y1 y2 y3 y4 ha hc hvl hll hnv hnl ho
  go_enter Try.func17, Try.ntmps17
  go_wp2_with fail
  change Calls _ _ _ ((((w.alloc (.cells #[.slice Pa nv ca, .slice Pc nl cc_] 30)).alloc (.cells #[.slice none 0 0, .slice none 0 0] 30)).alloc zCells).alloc zCells) _
  generalize (((w.alloc (.cells #[.slice Pa nv ca, .slice Pc nl cc_] 30)).alloc (.cells #[.slice none 0 0, .slice none 0 0] 30)).alloc zCells).alloc zCells = w3 at *
  obtain ⟨b, hb⟩ : ∃ b, w.heap.size + 1 + 1 + 1 = b := ⟨_, rfl⟩
  obtain ⟨r2, hr2⟩ : ∃ r, w.heap.size + 1 + 1 = r := ⟨_, rfl⟩
  obtain ⟨r1, hr1⟩ : ∃ r, w.heap.size + 1 = r := ⟨_, rfl⟩
  have HR : Hid (w.heap.size ≤ r1 ∧ r1 < r2 ∧ r2 < b ∧ b < w3.heap.size) := ⟨by omega, by omega, by omega, by rw [HSz.out]; omega⟩
  rw [hb] at HX
  rw [hr2] at HZ2
  rw [hr1] at HZ1
  simp only [hb]
  simp only [hr2]
  simp only [hr1]
  clear hr1 hr2 hb HSz
  have HCh := Lib.hid (changed_high (b := some b) (e0 := cvE o) (s' := ⟨cvL o, (l.map (·.1)).dropLast⟩) (K := fun W => CtlAt W b (cvC o)) (caps := #[.pointer (some ⟨b, 0, none⟩)]) (HA.out.keep HB3.out) (HC.out.keep HB3.out) (by have := HL.out; omega) (by have := HLL.out; omega) (k := 38) ⟨_, Try.func38, by kernel_rfl, by kernel_rfl⟩
    (fun W W' r' hK hr' hN hch hs => by
      obtain ⟨u, h1, h2⟩ := hK
      exact ⟨u, (hch b (lt_of_heap h1) (by have := HR.out.2.2.2; intro e; have := Option.some.inj e; omega)).trans h1, row_besideB h2 hN hch hs⟩)
    (fun hsn W B D vv cv l' hB hW hd hl' => by
      have hz := (hW.block b HR.out.2.2.2).trans HX.out
      have hll' : l'.length = l.length := by have := congrArg List.length hl'; simpa using this
      rw [← HO.out, ← hl']
      exact closed1 hd (by have := HL.out; omega) (by have := HLL.out; omega) (fun p hp => by
        have h1 := (sane_facts hsn).1 p.1 (by show p.1 ∈ l.map (·.1); rw [← hl']; exact List.mem_map_of_mem hp)
        have := mayE_len h1.2.2
        omega) (Nat.lt_of_lt_of_le HR.out.2.2.2 hB) hz) (fun x hx e => by have := HR.out.2.2.2; have := Option.some.inj e; omega))
  refine HCh.out.mono ?_
  rintro e w4 hch
  have HU : ∃ v ms mc ee, closeMade ⟨vals, l.map (·.1)⟩ o = (ms, mc, ee) ∧ e = .returned (.tuple #[v, .int .i64 ee]) ∧ (∀ W : World, (∀ k, w3.heap.size ≤ k → k < w4.heap.size → W.heap[k]? = w4.heap[k]?) → StIs elP W v ms) ∧ CtlAt w4 b mc ∧ BO w3.heap.size (some b) w3 w4 := by
    unfold closeMade
    rcases hch with ⟨h1, h2, h3⟩ | ⟨h1, h2, h3, h4, h5⟩ | ⟨h1, h2, v, h3, h4, h5, h6⟩
    · rw [if_pos h1]
      exact ⟨_, _, _, _, rfl, h2, fun W _ => zS_is W, CtlAt.zero ((h3.block b HR.out.2.2.2).trans HX.out), BO.of_below h3⟩
    · rw [if_neg (by rw [h1]; decide)]
      cases o with
      | none => exact ⟨_, _, _, _, rfl, h3, fun W _ => zS_is W, h4, h5⟩
      | some p => exact absurd rfl h2
    · rw [if_neg (by rw [h1]; decide)]
      cases o with
      | none => exact absurd h2 (by decide)
      | some p => exact ⟨_, _, _, _, rfl, h3, h4, h5, h6⟩
  obtain ⟨v, ms, mc, ee, hu, rfl, hv, ⟨u, hub, hur⟩, hbo⟩ := HU
  have HUU := Lib.hid hu
  have hz1 := (hbo.block r1 (by have := HR.out; omega) (by have := HR.out; intro e; have := Option.some.inj e; omega)).trans HZ1.out
  have hz2 := (hbo.block r2 (by have := HR.out; omega) (by have := HR.out; intro e; have := Option.some.inj e; omega)).trans HZ2.out
  have HB4 : Hid (Below w.heap.size w w4) := HB3.out.trans ⟨hbo.os, hbo.tape, hbo.output, hbo.size, fun k hk => hbo.block k (Nat.lt_of_lt_of_le hk HB3.out.size) (by have := HR.out; intro e; have := Option.some.inj e; omega)⟩
  have HS4 := Lib.hid hbo.size
  obtain ⟨P1, n1, c1, P2, n2, c2, rfl⟩ : ∃ P n c Q m d, v = .agg #[.slice P n c, .slice Q m d] := by
    obtain ⟨a, c, l9, rfl, h1, h2, _⟩ := hv w4 (fun _ _ _ => rfl)
    obtain ⟨A1, k1, rfl, _⟩ := h1.form
    obtain ⟨A2, k2, rfl, _⟩ := h2.form
    exact ⟨_, _, _, _, _, _, rfl⟩
  obtain ⟨P3, n3, c3, rfl⟩ : ∃ P n c, u = .slice P n c := by
    obtain ⟨A1, k1, e, _⟩ := hur.form
    exact ⟨_, _, _, e⟩
  have HV := Lib.hid hv
  have HB5 := Lib.hid (below_new w4 (.cells #[.slice P1 n1 c1, .slice P2 n2 c2] 30))
  have HX5 := Lib.hid (heap_new w4 (.cells #[.slice P1 n1 c1, .slice P2 n2 c2] 30))
  have HZ1' := Lib.hid ((HB5.out.block r1 (lt_of_heap hz1)).trans hz1)
  have HZ2' := Lib.hid ((HB5.out.block r2 (lt_of_heap hz2)).trans hz2)
  have HZb' := Lib.hid ((HB5.out.block b (lt_of_heap hub)).trans hub)
  have HUR := Lib.hid (hur.keep HB5.out)
  have HLT := Lib.hid (lt_of_heap hub)
  clear hz1 hz2 hub hur hv hbo hu hch HCh
  go_wp2_with fail
  generalize w4.alloc (.cells #[.slice P1 n1 c1, .slice P2 n2 c2] 30) = w7 at *
  obtain ⟨x, hx⟩ : ∃ x, w4.heap.size = x := ⟨_, rfl⟩
  rw [hx] at HX5
  simp only [hx]
  have hxb : b < x := by rw [← hx]; exact HLT.out
  obtain ⟨x0, x1⟩ : w7.cell? ⟨x, 0, none⟩ = some (.slice P1 n1 c1) ∧ w7.cell? ⟨x, 1, none⟩ = some (.slice P2 n2 c2) := ⟨(cells_at HX5.out 0).1, (cells_at HX5.out 1).1⟩
  obtain ⟨k0, k1, k2, k3⟩ : w7.cell? ⟨b, 0, none⟩ = some (.int .i64 mc.op) ∧ w7.cell? ⟨b, 1, none⟩ = some (.slice P3 n3 c3) ∧ w7.cell? ⟨b, 2, none⟩ = some (.int .i64 mc.ht) ∧ w7.cell? ⟨b, 3, none⟩ = some (.bool mc.dead) := ⟨(cells_at HZb'.out 0).1, (cells_at HZb'.out 1).1, (cells_at HZb'.out 2).1, (cells_at HZb'.out 3).1⟩
  obtain ⟨q0, q1⟩ : w7.cell? ⟨r1, 0, none⟩ = some (.slice none 0 0) ∧ w7.cell? ⟨r1, 1, none⟩ = some (.slice none 0 0) := ⟨(cells_at HZ1'.out 0).1, (cells_at HZ1'.out 1).1⟩
  obtain ⟨p0, p1⟩ : w7.frozen? ⟨r1, 0, none⟩ = false ∧ w7.frozen? ⟨r1, 1, none⟩ = false := ⟨(cells_at HZ1'.out 0).2, (cells_at HZ1'.out 1).2⟩
  obtain ⟨s0, s1, s2, s3⟩ : w7.cell? ⟨r2, 0, none⟩ = some (.int .i64 0) ∧ w7.cell? ⟨r2, 1, none⟩ = some (.slice none 0 0) ∧ w7.cell? ⟨r2, 2, none⟩ = some (.int .i64 0) ∧ w7.cell? ⟨r2, 3, none⟩ = some (.bool false) := ⟨(cells_at HZ2'.out 0).1, (cells_at HZ2'.out 1).1, (cells_at HZ2'.out 2).1, (cells_at HZ2'.out 3).1⟩
  obtain ⟨t0, t1, t2, t3⟩ : w7.frozen? ⟨r2, 0, none⟩ = false ∧ w7.frozen? ⟨r2, 1, none⟩ = false ∧ w7.frozen? ⟨r2, 2, none⟩ = false ∧ w7.frozen? ⟨r2, 3, none⟩ = false := ⟨(cells_at HZ2'.out 0).2, (cells_at HZ2'.out 1).2, (cells_at HZ2'.out 2).2, (cells_at HZ2'.out 3).2⟩
  have d1 : b ≠ r1 := by have := HR.out; omega
  have d2 : b ≠ r2 := by have := HR.out; omega
  have d3 : x ≠ r1 := by have := HR.out; omega
  have d4 : x ≠ r2 := by have := HR.out; omega
  have d5 : r2 ≠ r1 := by have := HR.out; omega
  have d6 : r1 ≠ r2 := by have := HR.out; omega
  clear hx hxb
  go_region
  clear d1 d2 d3 d4 d5 x0 x1 k0 k1 k2 k3 q0 q1 p0 p1 s0 s1 s2 s3 t0 t1 t2 t3
  have HC1 := Lib.hid (chg2 w7 r1 (.slice P1 n1 c1) (.slice P2 n2 c2))
  have HZ18 := Lib.hid (set_heap (i := 1) (set_heap (i := 0) HZ1'.out (.slice P1 n1 c1)) (.slice P2 n2 c2))
  have HB8 := Lib.hid (((HB4.out.trans (HB5.out.mono HB4.out.size)).setCell (p := ⟨r1, 0, none⟩) HR.out.1 (.slice P1 n1 c1)).setCell (p := ⟨r1, 1, none⟩) HR.out.1 (.slice P2 n2 c2))
  have HN8 : Hid (((w7.setCell ⟨r1, 0, none⟩ (.slice P1 n1 c1)).setCell ⟨r1, 1, none⟩ (.slice P2 n2 c2)).heap.size = w7.heap.size) := by show _ = _; rw [set_size, set_size]
  generalize (w7.setCell ⟨r1, 0, none⟩ (.slice P1 n1 c1)).setCell ⟨r1, 1, none⟩ (.slice P2 n2 c2) = w8 at *
  have HU8 := Lib.hid (row_besideB HUR.out (noint2 HZ1'.out) HC1.out (Nat.le_of_eq HN8.out.symm))
  have HZ28 := Lib.hid ((HC1.out r2 (lt_of_heap HZ2'.out) (by intro e; exact d6 (Option.some.inj e).symm)).trans HZ2'.out)
  have HC2 := Lib.hid (chg4 w8 r2 (.int .i64 mc.op) (.slice P3 n3 c3) (.int .i64 mc.ht) (.bool mc.dead))
  have HZ29 := Lib.hid (set4_heap HZ28.out (.int .i64 mc.op) (.slice P3 n3 c3) (.int .i64 mc.ht) (.bool mc.dead) rfl)
  have hR2 : w.heap.size ≤ r2 := by have := HR.out; omega
  have HB9 := Lib.hid (((((HB8.out.setCell (p := ⟨r2, 0, none⟩) hR2 (.int .i64 mc.op)).setCell (p := ⟨r2, 1, none⟩) hR2 (.slice P3 n3 c3)).setCell (p := ⟨r2, 2, none⟩) hR2 (.int .i64 mc.ht)).setCell (p := ⟨r2, 3, none⟩) hR2 (.bool mc.dead)).drew)
  have HN9 : Hid (((((w8.setCell ⟨r2, 0, none⟩ (.int .i64 mc.op)).setCell ⟨r2, 1, none⟩ (.slice P3 n3 c3)).setCell ⟨r2, 2, none⟩ (.int .i64 mc.ht)).setCell ⟨r2, 3, none⟩ (.bool mc.dead)).heap.size = w8.heap.size) := by show _ = _; rw [set_size, set_size, set_size, set_size]
  generalize (((w8.setCell ⟨r2, 0, none⟩ (.int .i64 mc.op)).setCell ⟨r2, 1, none⟩ (.slice P3 n3 c3)).setCell ⟨r2, 2, none⟩ (.int .i64 mc.ht)).setCell ⟨r2, 3, none⟩ (.bool mc.dead) = w9 at *
  have HU9 := Lib.hid ((row_besideU HU8.out (nou8_4 HZ28.out) HC2.out (Nat.le_of_eq HN9.out.symm)).keep (below_drew1 w9))
  have HZ19 := (HC2.out r1 (lt_of_heap HZ18.out) (by intro e; exact d6 (Option.some.inj e))).trans HZ18.out
  have HV9 : Hid (StIs elP w9.drew (.agg #[.slice P1 n1 c1, .slice P2 n2 c2]) ms) := HV.out w9.drew fun k h1 h2 => by
    show w9.heap[k]? = _
    have hs := HS4.out
    have h7 : k < w7.heap.size := Nat.lt_of_lt_of_le h2 HB5.out.size
    rw [HC2.out k (by rw [HN8.out]; exact h7) (by intro e; have := Option.some.inj e; have := HR.out; omega), HC1.out k h7 (by intro e; have := Option.some.inj e; have := HR.out; omega)]
    exact HB5.out.block k h2
  have y0 : w9.drew.cell? ⟨r1, 0, none⟩ = some (.slice P1 n1 c1) := (cells_at HZ19 0).1
  have y1 : w9.drew.cell? ⟨r1, 1, none⟩ = some (.slice P2 n2 c2) := (cells_at HZ19 1).1
  have z0 : w9.drew.cell? ⟨r2, 0, none⟩ = some (.int .i64 mc.op) := (cells_at HZ29.out 0).1
  have z1 : w9.drew.cell? ⟨r2, 1, none⟩ = some (.slice P3 n3 c3) := (cells_at HZ29.out 1).1
  have z2 : w9.drew.cell? ⟨r2, 2, none⟩ = some (.int .i64 mc.ht) := (cells_at HZ29.out 2).1
  have z3 : w9.drew.cell? ⟨r2, 3, none⟩ = some (.bool mc.dead) := (cells_at HZ29.out 3).1
  clear HZ19 hR2 d6
  generalize w9.drew = w10 at *
  go_wp2_with fail
  refine bodyPost_ret (v := .tuple #[.agg #[.slice P1 n1 c1, .slice P2 n2 c2], .agg #[.int .i64 mc.op, .slice P3 n3 c3, .int .i64 mc.ht, .bool mc.dead], .int .i64 ee]) (by simp [results, Try.results17, go_sem, y0, y1, z0, z1, z2, z3]) rfl ⟨⟨_, _, by rw [HUU.out], by rw [HUU.out]; exact HV9.out, by rw [HUU.out]; exact HU9.out⟩, HB9.out⟩
end Go.Proofs.Ytlappkflnlbfcaa.Stk
