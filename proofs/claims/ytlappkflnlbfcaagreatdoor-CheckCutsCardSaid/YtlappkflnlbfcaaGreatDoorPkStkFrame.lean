/- StkRWant, StkRClose, StkCloseH, StkFrame. -/
import Derived.Test.YtlappkflnlbfcaaGreatDoorPkStkRKill
import Derived.Test.YtlappkflnlbfcaaGreatDoorPkStackApartWalk
import Derived.Test.YtlappkflnlbfcaaGreatDoorPkStkGrown
import Derived.Test.YtlappkflnlbfcaaGreatDoorPkStkPlain
import Derived.Lib.SmallJoins
import Derived.ProofKit
import Derived.OpenShut
import Derived.Deep.Slices
section
/- The document's Want, walked (gen_rdoc.py). -/
namespace Go.Proofs.YtlappkflnlbfcaaGreatDoor.Stk
open Go.RowKit Row9
set_option maxRecDepth 100000
set_option maxHeartbeats 4000000
set_option linter.unusedVariables false
theorem StIs.set2 {W : World} {y : Nat} {a b v : Value} {s : Stk} {A A' B B' : Option Addr} {n c n' c' m d m' d' : Nat} {t : TypeId} (h : StIs elD W v s) (hy : W.heap[y]? = some (.cells #[.slice A n c, .slice A' n' c'] t (0, 0))) (ha : a = .slice B m d) (hb : b = .slice B' m' d') : StIs elD ((W.setCell ⟨y, 0, none⟩ a).setCell ⟨y, 1, none⟩ b) v s := by
  subst ha hb
  refine (h.set_box hy).set_box (y := y) (A := B) (n := m) (c := d) (A' := A') (n' := n') (c' := c') (t := t) ?_
  rw [set_heap hy]
  rfl
theorem chg_two {W : World} {y k : Nat} {a b a' b' : Value} {o : Obj} {t : TypeId} (hk : W.heap[k]? = some o) (hy : W.heap[y]? = some (.cells #[a', b'] t (0, 0))) (hne : k ≠ y) : ((W.setCell ⟨y, 0, none⟩ a).setCell ⟨y, 1, none⟩ b).heap[k]? = some o := by
  rw [chg_set _ y 1 _ k (by rw [set_size]; exact lt_of_heap hk) (fun e => hne (Option.some.inj e)), chg_set _ y 0 _ k (lt_of_heap hk) (fun e => hne (Option.some.inj e))]
  exact hk
/-- What Want ends with: rows of the call's own. -/
def ROpE (r : Stk × Int) (w : World) (e : Ending) (w' : World) : Prop := (∃ P n c Q m d l, e = .returned (.tuple #[.agg #[.slice P n c, .slice Q m d], .int .i64 r.2]) ∧ EO elB w' w.heap.size (.slice P n c) r.1.vals ∧ EO elD w' w.heap.size (.slice Q m d) l ∧ l.map (·.1) = r.1.cs ∧ (∀ p ∈ r.1.vals, 0 ≤ p ∧ p < 256) ∧ (∀ p ∈ l, CtOk w' p)) ∧ Below w.heap.size w w'
theorem ROpE.op {r : Stk × Int} {w w' : World} {e : Ending} (h : ROpE r w e w') : ROp r w e w' := by
  obtain ⟨⟨P, n, c, Q, m, d, l, h1, h2, h3, h4, h5, h6⟩, hb⟩ := h
  exact ⟨⟨P, n, c, Q, m, d, h1, _, _, l, rfl, h2.row h5, h3.row h6, h4⟩, hb⟩
theorem ROpE.none {w w' : World} {i : Int} (hb : Below w.heap.size w w') : ROpE (none_, i) w (.returned (.tuple #[.agg #[.slice none 0 0, .slice none 0 0], .int .i64 i])) w' :=
  ⟨⟨_, _, _, _, _, _, [], rfl, .inr (own_nil _ _ _), .inr (own_nil _ _ _), rfl, (fun p hp => by cases hp), (fun p hp => by cases hp)⟩, hb⟩
end Go.Proofs.YtlappkflnlbfcaaGreatDoor.Stk
end

section
/- The document's Close, walked (gen_rdoc.py). -/
namespace Go.Proofs.YtlappkflnlbfcaaGreatDoor.Stk
open Go.RowKit Row9
set_option maxRecDepth 100000
set_option maxHeartbeats 4000000
set_option linter.unusedVariables false
/-- What the document's Close ends with. -/
def RClose (r : Stk × Ctl × Int) (w : World) (e : Ending) (w' : World) : Prop := (∃ P n c Q m d R k f, e = .returned (.tuple #[.agg #[.slice P n c, .slice Q m d], .agg #[.int .i64 r.2.1.op, .slice R k f, .int .i64 r.2.1.ht, .bool r.2.1.dead], .int .i64 r.2.2]) ∧ StIs elD w' (.agg #[.slice P n c, .slice Q m d]) r.1 ∧ Row elB w' (.slice R k f) r.2.1.fin) ∧ Below w.heap.size w w'
theorem RClose.zero {w w' : World} {i : Int} (hb : Below w.heap.size w w') : RClose (none_, zeroC, i) w (.returned (.tuple #[.agg #[.slice none 0 0, .slice none 0 0], .agg #[.int .i64 0, .slice none 0 0, .int .i64 0, .bool false], .int .i64 i])) w' :=
  ⟨⟨_, _, _, _, _, _, _, _, _, rfl, StIs.none_ elD w', Row.nil _ _⟩, hb⟩
theorem sane_fin {s : Stk} {q : List Ctl} {c : Ctl} (hs : sane s = true) (h : s.cs = q ++ [c]) : mayE c.fin = true := by
  obtain ⟨z, h1, _⟩ := (sane_iff s).1 hs
  rw [h, sgo_append] at h1
  cases hq : sgo 0 q with
  | none => rw [hq] at h1; cases h1
  | some z' =>
    rw [hq] at h1
    simp only [sgo] at h1
    split at h1
    · rename_i hc
      rw [Bool.and_eq_true] at hc
      exact hc.1
    · cases h1
theorem close_notsane {s : Stk} (h : sane s = false) : closeS s = (none_, zeroC, 1) := by unfold closeS; rw [if_pos h]
theorem close_empty {s : Stk} (h : sane s = true) (hc : s.cs = []) : closeS s = (none_, zeroC, 5) := by
  unfold closeS
  rw [if_neg (by rw [h]; decide), hc]
  rfl
theorem close_last {s : Stk} {q : List Ctl} {c : Ctl} (h : sane s = true) (hc : s.cs = q ++ [c]) : closeS s = match wantV (some c) s.vals c.fin.reverse with
    | none => (none_, zeroC, 5)
    | some vs => if (vs.length : Int) ≠ c.ht then (none_, zeroC, 5) else (⟨vs, q⟩, c, 0) := by
  unfold closeS
  rw [if_neg (by rw [h]; decide), hc, List.getLast?_concat, List.dropLast_concat]
  rfl
theorem Row.take {α : Type} {T : El α} {w : World} {A : Option Addr} {n c : Nat} {l : List α} (h : Row T w (.slice A n c) l) (k : Nat) (hk : k ≤ l.length) : Row T w (.slice A k c) (l.take k) := by
  obtain ⟨⟨A', c', h1, h2, h3, h4⟩, h5⟩ := h
  injection h1 with e1 e2 e3
  subst e1 e3
  refine ⟨⟨A, c, by rw [List.length_take, Nat.min_eq_left hk], by rw [List.length_take]; omega, h3, fun h0 => ?_⟩, fun p hp => h5 p (List.mem_of_mem_take hp)⟩
  obtain ⟨g, off, e, hg, hB⟩ := h4 (fun e => h0 (by rw [e]; simp))
  refine ⟨g, off, e, hg, fun j p hj => hB j p ?_⟩
  rw [List.getElem?_take] at hj
  split at hj
  · exact hj
  · cases hj
/-- A block without bytes. -/
def No8 (w : World) (z : Nat) : Prop := ∀ i x, w.cell? ⟨z, i, none⟩ ≠ some (.int .u8 x)
theorem rowB_chg {w w' : World} {z : Nat} {v : Value} {l : List Int} (h : Row elB w v l) (hz : No8 w z) (hc : Chg w w' (some z)) (hs : w.heap.size ≤ w'.heap.size) : Row elB w' v l := by
  obtain ⟨⟨B, d, h1, h2, h3, h4⟩, h5⟩ := h
  refine ⟨⟨B, d, h1, h2, h3, fun h0 => ?_⟩, h5⟩
  obtain ⟨g, off, e, hg, hB⟩ := h4 h0
  have hgz : g ≠ z := by
    intro e
    subst e
    obtain ⟨p, hp⟩ : ∃ p, l[0]? = some p := by
      cases l with
      | nil => exact absurd rfl h0
      | cons p l => exact ⟨p, rfl⟩
    exact hz _ _ (hB 0 p hp 0 _ rfl)
  refine ⟨g, off, e, Nat.lt_of_lt_of_le hg hs, fun j p hj i' u' hu => ?_⟩
  have h6 := hB j p hj i' u' hu
  have h7 := hc g hg (by intro e; exact hgz (Option.some.inj e))
  simp only [World.cell?] at h6 ⊢
  rw [h7]
  exact h6
theorem no8_ctl {w : World} {z : Nat} {a b c d : Value} {t : TypeId} (h : w.heap[z]? = some (.cells #[a, b, c, d] t (0, 0))) (ha : ∀ x, a ≠ .int .u8 x) (hb : ∀ x, b ≠ .int .u8 x) (hc : ∀ x, c ≠ .int .u8 x) (hd : ∀ x, d ≠ .int .u8 x) : No8 w z := by
  intro i x
  rw [(cells_at h i).1]
  rcases i with _ | _ | _ | _ | i
  · simpa using ha x
  · simpa using hb x
  · simpa using hc x
  · simpa using hd x
  · simp
theorem store4 {w : World} {z : Nat} {a0 b0 c0 d0 : Value} {t : TypeId} (h : w.heap[z]? = some (.cells #[a0, b0, c0, d0] t (0, 0))) (a b c d : Value) : ((((w.setCell ⟨z, 0, none⟩ a).setCell ⟨z, 1, none⟩ b).setCell ⟨z, 2, none⟩ c).setCell ⟨z, 3, none⟩ d).heap[z]? = some (.cells #[a, b, c, d] t (0, 0)) := by
  rw [set_heap (set_heap (set_heap (set_heap h _) _) _)]
  rfl
theorem size4 (w : World) (z : Nat) (a b c d : Value) : ((((w.setCell ⟨z, 0, none⟩ a).setCell ⟨z, 1, none⟩ b).setCell ⟨z, 2, none⟩ c).setCell ⟨z, 3, none⟩ d).heap.size = w.heap.size := by simp only [set_size]
theorem below_set4 {B z : Nat} {w w' : World} (h : Below B w w') (hz : B ≤ z) (a b c d : Value) : Below B w ((((w'.setCell ⟨z, 0, none⟩ a).setCell ⟨z, 1, none⟩ b).setCell ⟨z, 2, none⟩ c).setCell ⟨z, 3, none⟩ d) :=
  (((h.setCell (p := ⟨z, 0, none⟩) hz a).setCell (p := ⟨z, 1, none⟩) hz b).setCell (p := ⟨z, 2, none⟩) hz c).setCell (p := ⟨z, 3, none⟩) hz d
theorem blk2 {w w' : World} {z k : Nat} {o : Obj} (hc : Chg w w' (some z)) (h : w.heap[k]? = some o) (hne : k ≠ z) : w'.heap[k]? = some o := (hc k (lt_of_heap h) (fun e => hne (Option.some.inj e))).trans h
end Go.Proofs.YtlappkflnlbfcaaGreatDoor.Stk
end

section
/- The program's Close, walked again: what is left lies in the call's own memory. -/
namespace Go.Proofs.YtlappkflnlbfcaaGreatDoor.Stk
open Go.RowKit Row9
set_option maxRecDepth 100000
set_option maxHeartbeats 2000000
set_option linter.unusedVariables false
/-- As CloseEnds; what is left lies in the call's own memory: it stays while that does. -/
def CloseHigh (r : Stk × Ctl × Int) (w : World) (e : Ending) (w' : World) : Prop := (∃ v u, e = .returned (.tuple #[v, .agg #[.int .i64 r.2.1.op, u, .int .i64 r.2.1.ht, .bool r.2.1.dead], .int .i64 r.2.2]) ∧ (∀ W : World, (∀ k, w.heap.size ≤ k → k < w'.heap.size → W.heap[k]? = w'.heap[k]?) → StIs elP W v r.1) ∧ Row elB w' u r.2.1.fin) ∧ Below w.heap.size w w'
theorem Close_high {a c : Value} {vals : List Int} {l : List CtV} {w : World} (ha : Row elB w a vals) (hc : Row elP w c l) (hvl : vals.length ≤ 400000) (hll : l.length ≤ 400000) :
    Calls Tryz.prog 52 #[.agg #[a, c]] w (CloseHigh (closeS ⟨vals, l.map (·.1)⟩) w) := by
  have hmf := mkf
  have HA := Lib.hid ha
  have HC := Lib.hid hc
  have HL := Lib.hid hvl
  have HLL := Lib.hid hll
  obtain ⟨Pa, ca, rfl, y1, y2⟩ := ha.form
  obtain ⟨Pc, cc_, rfl, y3, y4⟩ := hc.form
  obtain ⟨nv, hnv⟩ : ∃ n, vals.length = n := ⟨_, rfl⟩
  obtain ⟨nl, hnl⟩ : ∃ n, l.length = n := ⟨_, rfl⟩
  rw [closeS_is]
  obtain ⟨o, ho⟩ : ∃ o, closeV vals (l.map (·.1)) = o := ⟨_, rfl⟩
  have HO := Lib.hid ho
  show Calls _ _ _ _ (CloseHigh (closeMade ⟨vals, l.map (·.1)⟩ (closeV vals (l.map (·.1)))) w)
  rw [ho]
  rw [hnv] at HA ⊢
  rw [hnl] at HC ⊢
  have HNL := Lib.hid hnl
  have HB3 := Lib.hid (below4 w (.cells #[.slice Pa nv ca, .slice Pc nl cc_] 39) (.cells #[.slice none 0 0, .slice none 0 0] 39) zCells zCells)
  have HSz : Hid (((((w.alloc (.cells #[.slice Pa nv ca, .slice Pc nl cc_] 39)).alloc (.cells #[.slice none 0 0, .slice none 0 0] 39)).alloc zCells).alloc zCells).heap.size = w.heap.size + 1 + 1 + 1 + 1) := by
    show _ = _
    rw [size_new, size_new, size_new, size_new]
  have HZ1 : Hid (((((w.alloc (.cells #[.slice Pa nv ca, .slice Pc nl cc_] 39)).alloc (.cells #[.slice none 0 0, .slice none 0 0] 39)).alloc zCells).alloc zCells).heap[w.heap.size + 1]? = some (.cells #[.slice none 0 0, .slice none 0 0] 39 (0, 0))) := by
    show _ = _
    rw [(below2 ((w.alloc (.cells #[.slice Pa nv ca, .slice Pc nl cc_] 39)).alloc (.cells #[.slice none 0 0, .slice none 0 0] 39)) zCells zCells).block (w.heap.size + 1) (by simp only [size_new]; omega)]
    have := heap_new (w.alloc (.cells #[.slice Pa nv ca, .slice Pc nl cc_] 39)) (.cells #[.slice none 0 0, .slice none 0 0] 39)
    rw [size_new] at this
    exact this
  have HZ2 : Hid (((((w.alloc (.cells #[.slice Pa nv ca, .slice Pc nl cc_] 39)).alloc (.cells #[.slice none 0 0, .slice none 0 0] 39)).alloc zCells).alloc zCells).heap[w.heap.size + 1 + 1]? = some zCells) := by
    show _ = _
    rw [(below_new (((w.alloc (.cells #[.slice Pa nv ca, .slice Pc nl cc_] 39)).alloc (.cells #[.slice none 0 0, .slice none 0 0] 39)).alloc zCells) zCells).block (w.heap.size + 1 + 1) (by simp only [size_new]; omega)]
    have := heap_new ((w.alloc (.cells #[.slice Pa nv ca, .slice Pc nl cc_] 39)).alloc (.cells #[.slice none 0 0, .slice none 0 0] 39)) zCells
    rw [size_new, size_new] at this
    exact this
  have HX := Lib.hid (heap_new (((w.alloc (.cells #[.slice Pa nv ca, .slice Pc nl cc_] 39)).alloc (.cells #[.slice none 0 0, .slice none 0 0] 39)).alloc zCells) zCells)
  simp only [size_new] at HX
  clear y1 y2 y3 y4 ha hc hvl hll hnv hnl ho
  go_enter Tryz.func52, Tryz.ntmps52
  go_wp2_with fail
  change Calls _ _ _ ((((w.alloc (.cells #[.slice Pa nv ca, .slice Pc nl cc_] 39)).alloc (.cells #[.slice none 0 0, .slice none 0 0] 39)).alloc zCells).alloc zCells) _
  generalize (((w.alloc (.cells #[.slice Pa nv ca, .slice Pc nl cc_] 39)).alloc (.cells #[.slice none 0 0, .slice none 0 0] 39)).alloc zCells).alloc zCells = w3 at *
  obtain ⟨b, hb⟩ : ∃ b, w.heap.size + 1 + 1 + 1 = b := ⟨_, rfl⟩
  obtain ⟨r2, hr2⟩ : ∃ r, w.heap.size + 1 + 1 = r := ⟨_, rfl⟩
  obtain ⟨r1, hr1⟩ : ∃ r, w.heap.size + 1 = r := ⟨_, rfl⟩
  have HR : Hid (w.heap.size ≤ r1 ∧ r1 < r2 ∧ r2 < b ∧ b < w3.heap.size) := ⟨by omega, by omega, by omega, by rw [HSz.out]; omega⟩
  rw [hb] at HX
  rw [hr2] at HZ2
  rw [hr1] at HZ1
  simp only [hb]
  simp only [hr2]
  simp only [hr1]
  clear hr1 hr2 hb HSz
  have HCh := Lib.hid (changed_high (b := some b) (e0 := cvE o) (s' := ⟨cvL o, (l.map (·.1)).dropLast⟩) (K := fun W => CtlAt W b (cvC o)) (caps := #[.pointer (some ⟨b, 0, none⟩)]) (HA.out.keep HB3.out) (HC.out.keep HB3.out) (by have := HL.out; omega) (by have := HLL.out; omega) (k := 84) ⟨_, Tryz.func84, by kernel_rfl, by kernel_rfl⟩
    (fun W W' r' hK hr' hN hch hs => by
      obtain ⟨u, h1, h2⟩ := hK
      exact ⟨u, (hch b (lt_of_heap h1) (by have := HR.out.2.2.2; intro e; have := Option.some.inj e; omega)).trans h1, row_besideB h2 hN hch hs⟩)
    (fun hsn W B D vv cv l' hB hW hd hl' => by
      have hz := (hW.block b HR.out.2.2.2).trans HX.out
      have hll' : l'.length = l.length := by have := congrArg List.length hl'; simpa using this
      rw [← HO.out, ← hl']
      exact closed1 hd (by have := HL.out; omega) (by have := HLL.out; omega) (fun p hp => by
        have h1 := (sane_facts hsn).1 p.1 (by show p.1 ∈ l.map (·.1); rw [← hl']; exact List.mem_map_of_mem hp)
        have := mayE_len h1.2.2
        omega) (Nat.lt_of_lt_of_le HR.out.2.2.2 hB) hz) (fun x hx e => by have := HR.out.2.2.2; have := Option.some.inj e; omega))
  refine HCh.out.mono ?_
  rintro e w4 hch
  have HU : ∃ v ms mc ee, closeMade ⟨vals, l.map (·.1)⟩ o = (ms, mc, ee) ∧ e = .returned (.tuple #[v, .int .i64 ee]) ∧ (∀ W : World, (∀ k, w3.heap.size ≤ k → k < w4.heap.size → W.heap[k]? = w4.heap[k]?) → StIs elP W v ms) ∧ CtlAt w4 b mc ∧ BO w3.heap.size (some b) w3 w4 := by
    unfold closeMade
    rcases hch with ⟨h1, h2, h3⟩ | ⟨h1, h2, h3, h4, h5⟩ | ⟨h1, h2, v, h3, h4, h5, h6⟩
    · rw [if_pos h1]
      exact ⟨_, _, _, _, rfl, h2, fun W _ => zS_is W, CtlAt.zero ((h3.block b HR.out.2.2.2).trans HX.out), BO.of_below h3⟩
    · rw [if_neg (by rw [h1]; decide)]
      cases o with
      | none => exact ⟨_, _, _, _, rfl, h3, fun W _ => zS_is W, h4, h5⟩
      | some p => exact absurd rfl h2
    · rw [if_neg (by rw [h1]; decide)]
      cases o with
      | none => exact absurd h2 (by decide)
      | some p => exact ⟨_, _, _, _, rfl, h3, h4, h5, h6⟩
  obtain ⟨v, ms, mc, ee, hu, rfl, hv, ⟨u, hub, hur⟩, hbo⟩ := HU
  have HUU := Lib.hid hu
  have hz1 := (hbo.block r1 (by have := HR.out; omega) (by have := HR.out; intro e; have := Option.some.inj e; omega)).trans HZ1.out
  have hz2 := (hbo.block r2 (by have := HR.out; omega) (by have := HR.out; intro e; have := Option.some.inj e; omega)).trans HZ2.out
  have HB4 : Hid (Below w.heap.size w w4) := HB3.out.trans ⟨hbo.os, hbo.tape, hbo.output, hbo.size, fun k hk => hbo.block k (Nat.lt_of_lt_of_le hk HB3.out.size) (by have := HR.out; intro e; have := Option.some.inj e; omega)⟩
  have HS4 := Lib.hid hbo.size
  obtain ⟨P1, n1, c1, P2, n2, c2, rfl⟩ : ∃ P n c Q m d, v = .agg #[.slice P n c, .slice Q m d] := by
    obtain ⟨a, c, l9, rfl, h1, h2, _⟩ := hv w4 (fun _ _ _ => rfl)
    obtain ⟨A1, k1, rfl, _⟩ := h1.form
    obtain ⟨A2, k2, rfl, _⟩ := h2.form
    exact ⟨_, _, _, _, _, _, rfl⟩
  obtain ⟨P3, n3, c3, rfl⟩ : ∃ P n c, u = .slice P n c := by
    obtain ⟨A1, k1, e, _⟩ := hur.form
    exact ⟨_, _, _, e⟩
  have HV := Lib.hid hv
  have HB5 := Lib.hid (below_new w4 (.cells #[.slice P1 n1 c1, .slice P2 n2 c2] 39))
  have HX5 := Lib.hid (heap_new w4 (.cells #[.slice P1 n1 c1, .slice P2 n2 c2] 39))
  have HZ1' := Lib.hid ((HB5.out.block r1 (lt_of_heap hz1)).trans hz1)
  have HZ2' := Lib.hid ((HB5.out.block r2 (lt_of_heap hz2)).trans hz2)
  have HZb' := Lib.hid ((HB5.out.block b (lt_of_heap hub)).trans hub)
  have HUR := Lib.hid (hur.keep HB5.out)
  have HLT := Lib.hid (lt_of_heap hub)
  clear hz1 hz2 hub hur hv hbo hu hch HCh
  go_wp2_with fail
  generalize w4.alloc (.cells #[.slice P1 n1 c1, .slice P2 n2 c2] 39) = w7 at *
  obtain ⟨x, hx⟩ : ∃ x, w4.heap.size = x := ⟨_, rfl⟩
  rw [hx] at HX5
  simp only [hx]
  have hxb : b < x := by rw [← hx]; exact HLT.out
  obtain ⟨x0, x1⟩ : w7.cell? ⟨x, 0, none⟩ = some (.slice P1 n1 c1) ∧ w7.cell? ⟨x, 1, none⟩ = some (.slice P2 n2 c2) := ⟨(cells_at HX5.out 0).1, (cells_at HX5.out 1).1⟩
  obtain ⟨k0, k1, k2, k3⟩ : w7.cell? ⟨b, 0, none⟩ = some (.int .i64 mc.op) ∧ w7.cell? ⟨b, 1, none⟩ = some (.slice P3 n3 c3) ∧ w7.cell? ⟨b, 2, none⟩ = some (.int .i64 mc.ht) ∧ w7.cell? ⟨b, 3, none⟩ = some (.bool mc.dead) := ⟨(cells_at HZb'.out 0).1, (cells_at HZb'.out 1).1, (cells_at HZb'.out 2).1, (cells_at HZb'.out 3).1⟩
  obtain ⟨q0, q1⟩ : w7.cell? ⟨r1, 0, none⟩ = some (.slice none 0 0) ∧ w7.cell? ⟨r1, 1, none⟩ = some (.slice none 0 0) := ⟨(cells_at HZ1'.out 0).1, (cells_at HZ1'.out 1).1⟩
  obtain ⟨p0, p1⟩ : w7.frozen? ⟨r1, 0, none⟩ = false ∧ w7.frozen? ⟨r1, 1, none⟩ = false := ⟨(cells_at HZ1'.out 0).2, (cells_at HZ1'.out 1).2⟩
  obtain ⟨s0, s1, s2, s3⟩ : w7.cell? ⟨r2, 0, none⟩ = some (.int .i64 0) ∧ w7.cell? ⟨r2, 1, none⟩ = some (.slice none 0 0) ∧ w7.cell? ⟨r2, 2, none⟩ = some (.int .i64 0) ∧ w7.cell? ⟨r2, 3, none⟩ = some (.bool false) := ⟨(cells_at HZ2'.out 0).1, (cells_at HZ2'.out 1).1, (cells_at HZ2'.out 2).1, (cells_at HZ2'.out 3).1⟩
  obtain ⟨t0, t1, t2, t3⟩ : w7.frozen? ⟨r2, 0, none⟩ = false ∧ w7.frozen? ⟨r2, 1, none⟩ = false ∧ w7.frozen? ⟨r2, 2, none⟩ = false ∧ w7.frozen? ⟨r2, 3, none⟩ = false := ⟨(cells_at HZ2'.out 0).2, (cells_at HZ2'.out 1).2, (cells_at HZ2'.out 2).2, (cells_at HZ2'.out 3).2⟩
  have d1 : b ≠ r1 := by have := HR.out; omega
  have d2 : b ≠ r2 := by have := HR.out; omega
  have d3 : x ≠ r1 := by have := HR.out; omega
  have d4 : x ≠ r2 := by have := HR.out; omega
  have d5 : r2 ≠ r1 := by have := HR.out; omega
  have d6 : r1 ≠ r2 := by have := HR.out; omega
  clear hx hxb
  go_region
  clear d1 d2 d3 d4 d5 x0 x1 k0 k1 k2 k3 q0 q1 p0 p1 s0 s1 s2 s3 t0 t1 t2 t3
  have HC1 := Lib.hid (chg2 w7 r1 (.slice P1 n1 c1) (.slice P2 n2 c2))
  have HZ18 := Lib.hid (set_heap (i := 1) (set_heap (i := 0) HZ1'.out (.slice P1 n1 c1)) (.slice P2 n2 c2))
  have HB8 := Lib.hid (((HB4.out.trans (HB5.out.mono HB4.out.size)).setCell (p := ⟨r1, 0, none⟩) HR.out.1 (.slice P1 n1 c1)).setCell (p := ⟨r1, 1, none⟩) HR.out.1 (.slice P2 n2 c2))
  have HN8 : Hid (((w7.setCell ⟨r1, 0, none⟩ (.slice P1 n1 c1)).setCell ⟨r1, 1, none⟩ (.slice P2 n2 c2)).heap.size = w7.heap.size) := by show _ = _; rw [set_size, set_size]
  generalize (w7.setCell ⟨r1, 0, none⟩ (.slice P1 n1 c1)).setCell ⟨r1, 1, none⟩ (.slice P2 n2 c2) = w8 at *
  have HU8 := Lib.hid (row_besideB HUR.out (noint2 HZ1'.out) HC1.out (Nat.le_of_eq HN8.out.symm))
  have HZ28 := Lib.hid ((HC1.out r2 (lt_of_heap HZ2'.out) (by intro e; exact d6 (Option.some.inj e).symm)).trans HZ2'.out)
  have HC2 := Lib.hid (chg4 w8 r2 (.int .i64 mc.op) (.slice P3 n3 c3) (.int .i64 mc.ht) (.bool mc.dead))
  have HZ29 := Lib.hid (set4_heap HZ28.out (.int .i64 mc.op) (.slice P3 n3 c3) (.int .i64 mc.ht) (.bool mc.dead) rfl)
  have hR2 : w.heap.size ≤ r2 := by have := HR.out; omega
  have HB9 := Lib.hid (((((HB8.out.setCell (p := ⟨r2, 0, none⟩) hR2 (.int .i64 mc.op)).setCell (p := ⟨r2, 1, none⟩) hR2 (.slice P3 n3 c3)).setCell (p := ⟨r2, 2, none⟩) hR2 (.int .i64 mc.ht)).setCell (p := ⟨r2, 3, none⟩) hR2 (.bool mc.dead)).drew)
  have HN9 : Hid (((((w8.setCell ⟨r2, 0, none⟩ (.int .i64 mc.op)).setCell ⟨r2, 1, none⟩ (.slice P3 n3 c3)).setCell ⟨r2, 2, none⟩ (.int .i64 mc.ht)).setCell ⟨r2, 3, none⟩ (.bool mc.dead)).heap.size = w8.heap.size) := by show _ = _; rw [set_size, set_size, set_size, set_size]
  generalize (((w8.setCell ⟨r2, 0, none⟩ (.int .i64 mc.op)).setCell ⟨r2, 1, none⟩ (.slice P3 n3 c3)).setCell ⟨r2, 2, none⟩ (.int .i64 mc.ht)).setCell ⟨r2, 3, none⟩ (.bool mc.dead) = w9 at *
  have HU9 := Lib.hid ((row_besideU HU8.out (nou8_4 HZ28.out) HC2.out (Nat.le_of_eq HN9.out.symm)).keep (below_drew1 w9))
  have HZ19 := (HC2.out r1 (lt_of_heap HZ18.out) (by intro e; exact d6 (Option.some.inj e))).trans HZ18.out
  have HV9 : Hid (∀ W : World, (∀ k, w.heap.size ≤ k → k < w9.drew.heap.size → W.heap[k]? = w9.drew.heap[k]?) → StIs elP W (.agg #[.slice P1 n1 c1, .slice P2 n2 c2]) ms) := fun W hW => HV.out W fun k h1 h2 => by
    have hs := HS4.out
    have h7 : k < w7.heap.size := Nat.lt_of_lt_of_le h2 HB5.out.size
    rw [hW k (Nat.le_trans HB3.out.size h1) (by show k < w9.heap.size; rw [HN9.out, HN8.out]; exact h7)]
    show w9.heap[k]? = _
    rw [HC2.out k (by rw [HN8.out]; exact h7) (by intro e; have := Option.some.inj e; have := HR.out; omega), HC1.out k h7 (by intro e; have := Option.some.inj e; have := HR.out; omega)]
    exact HB5.out.block k h2
  have y0 : w9.drew.cell? ⟨r1, 0, none⟩ = some (.slice P1 n1 c1) := (cells_at HZ19 0).1
  have y1 : w9.drew.cell? ⟨r1, 1, none⟩ = some (.slice P2 n2 c2) := (cells_at HZ19 1).1
  have z0 : w9.drew.cell? ⟨r2, 0, none⟩ = some (.int .i64 mc.op) := (cells_at HZ29.out 0).1
  have z1 : w9.drew.cell? ⟨r2, 1, none⟩ = some (.slice P3 n3 c3) := (cells_at HZ29.out 1).1
  have z2 : w9.drew.cell? ⟨r2, 2, none⟩ = some (.int .i64 mc.ht) := (cells_at HZ29.out 2).1
  have z3 : w9.drew.cell? ⟨r2, 3, none⟩ = some (.bool mc.dead) := (cells_at HZ29.out 3).1
  clear HZ19 hR2 d6
  generalize w9.drew = w10 at *
  go_wp2_with fail
  refine bodyPost_ret (v := .tuple #[.agg #[.slice P1 n1 c1, .slice P2 n2 c2], .agg #[.int .i64 mc.op, .slice P3 n3 c3, .int .i64 mc.ht, .bool mc.dead], .int .i64 ee]) (by simp [results, Tryz.results52, go_sem, y0, y1, z0, z1, z2, z3]) rfl ⟨⟨_, _, by rw [HUU.out], by rw [HUU.out]; exact HV9.out, by rw [HUU.out]; exact HU9.out⟩, HB9.out⟩
theorem Close_hst {v : Value} {s : Stk} {w : World} (h : StIs elP w v s) (h1 : s.vals.length ≤ 400000) (h2 : s.cs.length ≤ 400000) : Calls Tryz.prog 52 #[v] w (CloseHigh (closeS s) w) := by
  obtain ⟨a, c, l, rfl, ha, hc, hl⟩ := h
  obtain ⟨vals, cs⟩ := s
  subst hl
  exact Close_high ha hc h1 (by simpa using h2)
theorem CloseHigh.of {r : Stk × Ctl × Int} {w w' : World} {e : Ending} (h : CloseHigh r w e w') : ∃ P n c Q m d R k f, e = .returned (.tuple #[.agg #[.slice P n c, .slice Q m d], .agg #[.int .i64 r.2.1.op, .slice R k f, .int .i64 r.2.1.ht, .bool r.2.1.dead], .int .i64 r.2.2]) ∧ (∀ W : World, (∀ k, w.heap.size ≤ k → k < w'.heap.size → W.heap[k]? = w'.heap[k]?) → StIs elP W (.agg #[.slice P n c, .slice Q m d]) r.1) ∧ Row elB w' (.slice R k f) r.2.1.fin ∧ Below w.heap.size w w' := by
  obtain ⟨⟨v, u, rfl, h2, h3⟩, hb⟩ := h
  obtain ⟨P, n, c, Q, m, d, rfl⟩ := StIs.form (T := elP) (h2 w' (fun _ _ _ => rfl))
  obtain ⟨R, f, rfl, _⟩ := h3.form
  exact ⟨_, _, _, _, _, _, _, _, _, rfl, h2, h3, hb⟩
end Go.Proofs.YtlappkflnlbfcaaGreatDoor.Stk
end

section
/- What came in, as the statements of layer 9 take it: acts, bytes, a stack. -/
namespace Go.Proofs.YtlappkflnlbfcaaGreatDoor.Stk
open Go.ChangeShapes Go.WideShapes Go.ChangeAt Go.RowKit Go.Joins Row9
set_option maxRecDepth 100000
set_option maxHeartbeats 400000
set_option linter.unusedVariables false
theorem cU8 : Tryz.prog.cellsOf 5 = 1 := by kernel_rfl
theorem cInt : Tryz.prog.cellsOf 3 = 1 := by kernel_rfl
theorem cBool : Tryz.prog.cellsOf 4 = 1 := by kernel_rfl
theorem cSl : Tryz.prog.cellsOf 25 = 1 := by kernel_rfl
section
variable {H : Type} {enc : TypeId × Value → H} {w : World} {base : Nat}
theorem byte_each {n : Nat} {cs : List Value} {y : DataW H × List MemPlace} (hl : cs.length = 1) (h : DataW.trod enc Tryz.prog w base (fun _ => true) true n 5 cs = some y) : ∃ q : Int, elB.ok w q ∧ elB.enc q = cs := by
  obtain ⟨op, e0, _, w0⟩ := DataW.trod_int Tryz.underlying5 (x := y) h
  refine ⟨op, ?_, e0.symm⟩
  have := bounds_u8 w0
  exact ⟨by omega, by omega⟩
theorem bytes_of {n : Nat} {v : Value} {y : DataW H × List MemPlace} (h : DataW.trod enc Tryz.prog w base (fun _ => true) true n 25 [v] = some y) : ∃ l, Row elB w v l :=
  row_of elB Tryz.underlying25 cU8 (fun hl hh => byte_each hl hh) h
theorem w64_of {x : Int} (h : (Lit.int .i64 x).wf = true) : w64 x := by
  have := bounds_i64 h
  unfold w64
  omega
end
end Go.Proofs.YtlappkflnlbfcaaGreatDoor.Stk
end
