/- What things that are done make of a stack of nothing, walked. -/
import Derived.Test.YtlappkflnlbfcaaStkActs
import Derived.Deep.RegionLaw
namespace Go.Proofs.Ytlappkflnlbfcaa.Stk
open Go.RowKit Row9
set_option maxRecDepth 100000
set_option maxHeartbeats 20000000
set_option linter.unusedVariables false
theorem nointS {w : World} {r : Nat} {t : TypeId} {P Q : Option Addr} {n c m d : Nat} (h : w.heap[r]? = some (.cells #[.slice P n c, .slice Q m d] t (0, 0))) : NoInt w r := fun i k x e => by
  rw [(cells_at h i).1] at e
  match i, e with
  | 0, e => cases e
  | 1, e => cases e
  | i + 2, e => cases e
theorem StIs.form {T : El CtV} {w : World} {v : Value} {s : Stk} (h : StIs T w v s) : ∃ P n c Q m d, v = .agg #[.slice P n c, .slice Q m d] := by
  obtain ⟨a, c, l, rfl, ha, hc, hl⟩ := h
  obtain ⟨P, k, rfl, _⟩ := ha.form
  obtain ⟨Q, d, rfl, _⟩ := hc.form
  exact ⟨_, _, _, _, _, _, rfl⟩
/-- A stack stays where another is stored in a variable of two slices. -/
theorem StIs.beside {e : TypeId} {hi} {w w' : World} {r : Nat} {v : Value} {s : Stk} (h : StIs (elCt e hi) w v s) (hr : NoInt w r) (hc : Chg w w' (some r)) (hs : w.heap.size ≤ w'.heap.size) : StIs (elCt e hi) w' v s := by
  obtain ⟨a, c, l, h1, h2, h3, h4⟩ := h
  exact ⟨a, c, l, h1, row_besideB h2 hr hc hs, row_besideC h3 hr hc hs, h4⟩
/-- A stack in a variable. -/
def StAt (T : El CtV) (w : World) (b : Nat) (s : Stk) : Prop := ∃ P n c Q m d, w.heap[b]? = some (.cells #[.slice P n c, .slice Q m d] 30 (0, 0)) ∧ StIs T w (.agg #[.slice P n c, .slice Q m d]) s
theorem StAt.keep {T : El CtV} {w w' : World} {b : Nat} {s : Stk} (h : StAt T w b s) (hb : Below w.heap.size w w') : StAt T w' b s := by
  obtain ⟨P, n, c, Q, m, d, h1, h2⟩ := h
  exact ⟨P, n, c, Q, m, d, (hb.block b (lt_of_heap h1)).trans h1, h2.keep hb⟩
theorem OpTold.of {r : Stk × Int} {w w' : World} {e : Ending} (h : OpTold r w e w') : ∃ P n c Q m d, e = .returned (.tuple #[.agg #[.slice P n c, .slice Q m d], .int .i64 r.2]) ∧ StIs elP w' (.agg #[.slice P n c, .slice Q m d]) r.1 ∧ Below w.heap.size w w' := by
  obtain ⟨⟨v, rfl, hv⟩, hb⟩ := h
  obtain ⟨P, n, c, Q, m, d, rfl⟩ := hv.form
  exact ⟨P, n, c, Q, m, d, rfl, hv, hb⟩
theorem PopEnds.of {r : Stk × Int × Int} {w w' : World} {e : Ending} (h : PopEnds r w e w') : ∃ P n c Q m d, e = .returned (.tuple #[.agg #[.slice P n c, .slice Q m d], .int .u8 r.2.1, .int .i64 r.2.2]) ∧ StIs elP w' (.agg #[.slice P n c, .slice Q m d]) r.1 ∧ Below w.heap.size w w' := by
  obtain ⟨⟨v, rfl, hv⟩, hb⟩ := h
  obtain ⟨P, n, c, Q, m, d, rfl⟩ := hv.form
  exact ⟨P, n, c, Q, m, d, rfl, hv, hb⟩
theorem CloseEnds.of {r : Stk × Ctl × Int} {w w' : World} {e : Ending} (h : CloseEnds r w e w') : ∃ P n c Q m d R k f, e = .returned (.tuple #[.agg #[.slice P n c, .slice Q m d], .agg #[.int .i64 r.2.1.op, .slice R k f, .int .i64 r.2.1.ht, .bool r.2.1.dead], .int .i64 r.2.2]) ∧ StIs elP w' (.agg #[.slice P n c, .slice Q m d]) r.1 ∧ Row elB w' (.slice R k f) r.2.1.fin ∧ Below w.heap.size w w' := by
  obtain ⟨⟨v, u, rfl, hv, hu⟩, hb⟩ := h
  obtain ⟨P, n, c, Q, m, d, rfl⟩ := hv.form
  obtain ⟨R, f, rfl, _⟩ := hu.form
  exact ⟨P, n, c, Q, m, d, _, _, _, rfl, hv, hu, hb⟩
/-- The program's calls, of a stack as a value. -/
theorem Push_st {v x : Value} {s : Stk} {xs : List Int} {w : World} (h : StIs elP w v s) (hx : Row elB w x xs) (h1 : s.vals.length ≤ 400000) (h2 : s.cs.length ≤ 400000) (h3 : xs.length ≤ 400000) : Calls Try.prog 7 #[v, x] w (OpTold (pushS s xs) w) := by
  obtain ⟨a, c, l, rfl, ha, hc, hl⟩ := h
  rw [pushS_is]
  obtain ⟨vals, cs⟩ := s
  subst hl
  exact Push_any ha hc hx h3 h1 (by simpa using h2)
theorem Want_st {v x : Value} {s : Stk} {xs : List Int} {w : World} (h : StIs elP w v s) (hx : Row elB w x xs) (h1 : s.vals.length ≤ 400000) (h2 : s.cs.length ≤ 400000) (h3 : xs.length ≤ 400000) : Calls Try.prog 13 #[v, x] w (OpTold (wantS s xs) w) := by
  obtain ⟨a, c, l, rfl, ha, hc, hl⟩ := h
  rw [wantS_is]
  obtain ⟨vals, cs⟩ := s
  subst hl
  exact Want_any ha hc hx h3 h1 (by simpa using h2)
theorem Open_st {v x : Value} {s : Stk} {xs : List Int} {op : Int} {w : World} (h : StIs elP w v s) (hx : Row elB w x xs) (ho : w64 op) (h1 : s.vals.length ≤ 400000) (h2 : s.cs.length ≤ 400000) (h3 : xs.length ≤ 400000) : Calls Try.prog 15 #[v, .int .i64 op, x] w (OpTold (openS s op xs) w) := by
  obtain ⟨a, c, l, rfl, ha, hc, hl⟩ := h
  rw [openS_is]
  obtain ⟨vals, cs⟩ := s
  subst hl
  exact Open_any ha hc hx h3 ho h1 (by simpa using h2)
theorem Kill_st {v : Value} {s : Stk} {w : World} (h : StIs elP w v s) (h1 : s.vals.length ≤ 400000) (h2 : s.cs.length ≤ 400000) : Calls Try.prog 19 #[v] w (OpTold (killS s) w) := by
  obtain ⟨a, c, l, rfl, ha, hc, hl⟩ := h
  rw [killS_is]
  obtain ⟨vals, cs⟩ := s
  subst hl
  exact Kill_any ha hc h1 (by simpa using h2)
theorem Pop_st {v : Value} {s : Stk} {w : World} (h : StIs elP w v s) (h1 : s.vals.length ≤ 400000) (h2 : s.cs.length ≤ 400000) : Calls Try.prog 9 #[v] w (PopEnds (popS s) w) := by
  obtain ⟨a, c, l, rfl, ha, hc, hl⟩ := h
  obtain ⟨vals, cs⟩ := s
  subst hl
  exact Pop_any ha hc h1 (by simpa using h2)
theorem Close_st {v : Value} {s : Stk} {w : World} (h : StIs elP w v s) (h1 : s.vals.length ≤ 400000) (h2 : s.cs.length ≤ 400000) : Calls Try.prog 17 #[v] w (CloseEnds (closeS s) w) := by
  obtain ⟨a, c, l, rfl, ha, hc, hl⟩ := h
  obtain ⟨vals, cs⟩ := s
  subst hl
  exact Close_any ha hc h1 (by simpa using h2)
theorem Sane_st {v : Value} {s : Stk} {w : World} (h : StIs elP w v s) : Calls Try.prog 25 #[v] w fun e w' => e = .returned (.bool (sane s)) ∧ Below w.heap.size w w' := by
  obtain ⟨a, c, l, rfl, ha, hc, hl⟩ := h
  obtain ⟨vals, cs⟩ := s
  subst hl
  exact sane_any ha hc
theorem act_push {s : Stk} {a : Act9} (h : a.what = 0 ∨ a.what = 1) : act s a = pushS s a.L := by unfold act; rw [if_pos h]
theorem act_pop {s : Stk} {a : Act9} (h : a.what = 2) : act s a = ((popS s).1, (popS s).2.2) := by unfold act; rw [if_neg (by omega), if_pos h]
theorem act_want {s : Stk} {a : Act9} (h : a.what = 3 ∨ a.what = 4) : act s a = wantS s a.L := by unfold act; rw [if_neg (by omega), if_neg (by omega), if_pos h]
theorem act_open {s : Stk} {a : Act9} (h : a.what = 5) : act s a = openS s a.op a.L := by unfold act; rw [if_neg (by omega), if_neg (by omega), if_neg (by omega), if_pos h]
theorem act_close {s : Stk} {a : Act9} (h : a.what = 6) : act s a = ((closeS s).1, (closeS s).2.2) := by unfold act; rw [if_neg (by omega), if_neg (by omega), if_neg (by omega), if_neg (by omega), if_pos h]
theorem act_kill {s : Stk} {a : Act9} (h : a.what = 7) : act s a = killS s := by unfold act; rw [if_neg (by omega), if_neg (by omega), if_neg (by omega), if_neg (by omega), if_neg (by omega), if_pos h]
theorem act_none {s : Stk} {a : Act9} (h : ¬ (0 ≤ a.what ∧ a.what ≤ 7)) : act s a = (s, 1) := by unfold act; rw [if_neg (by omega), if_neg (by omega), if_neg (by omega), if_neg (by omega), if_neg (by omega), if_neg (by omega)]
theorem tail_yes {w W : World} {r b x : Nat} {P Q A B : Option Addr} {np cp nq dq n c m d : Nat} {s : Stk} (h0 : Below r w W) (hz : W.heap[r]? = some (.cells #[.slice none 0 0, .slice none 0 0] 30 (0, 0))) (hb : W.heap[b]? = some (.cells #[.slice P np cp, .slice Q nq dq] 30 (0, 0))) (hx : W.heap[x]? = some (.cells #[.slice P np cp, .slice Q nq dq] 30 (0, 0)))
    (hv : StIs elP W (.agg #[.slice A n c, .slice B m d]) s) (hrb : r < b) (hbx : b < x) :
    Below r w ((((W.setCell ⟨x, 0, none⟩ (.slice A n c)).setCell ⟨x, 1, none⟩ (.slice B m d)).setCell ⟨b, 0, none⟩ (.slice A n c)).setCell ⟨b, 1, none⟩ (.slice B m d)) ∧ ((((W.setCell ⟨x, 0, none⟩ (.slice A n c)).setCell ⟨x, 1, none⟩ (.slice B m d)).setCell ⟨b, 0, none⟩ (.slice A n c)).setCell ⟨b, 1, none⟩ (.slice B m d)).heap[r]? = some (.cells #[.slice none 0 0, .slice none 0 0] 30 (0, 0)) ∧ StAt elP ((((W.setCell ⟨x, 0, none⟩ (.slice A n c)).setCell ⟨x, 1, none⟩ (.slice B m d)).setCell ⟨b, 0, none⟩ (.slice A n c)).setCell ⟨b, 1, none⟩ (.slice B m d)) b s := by
  have e1 := chg2 W x (.slice A n c) (.slice B m d)
  have hz1 := (e1 r (lt_of_heap hz) (by intro e; have := Option.some.inj e; omega)).trans hz
  have hb1 := (e1 b (lt_of_heap hb) (by intro e; have := Option.some.inj e; omega)).trans hb
  have hv1 := hv.beside (nointS hx) e1 (by rw [set_size, set_size]; exact Nat.le_refl _)
  have h1 : Below r w ((W.setCell ⟨x, 0, none⟩ (.slice A n c)).setCell ⟨x, 1, none⟩ (.slice B m d)) := (h0.setCell (p := ⟨x, 0, none⟩) (by show r ≤ x; omega) _).setCell (p := ⟨x, 1, none⟩) (by show r ≤ x; omega) _
  generalize (W.setCell ⟨x, 0, none⟩ (.slice A n c)).setCell ⟨x, 1, none⟩ (.slice B m d) = W1 at *
  have e2 := chg2 W1 b (.slice A n c) (.slice B m d)
  refine ⟨(h1.setCell (p := ⟨b, 0, none⟩) (by show r ≤ b; omega) _).setCell (p := ⟨b, 1, none⟩) (by show r ≤ b; omega) _, (e2 r (lt_of_heap hz1) (by intro e; have := Option.some.inj e; omega)).trans hz1, A, n, c, B, m, d, ?_, hv1.beside (nointS hb1) e2 (by rw [set_size, set_size]; exact Nat.le_refl _)⟩
  rw [set_heap (set_heap hb1 _) _]
  rfl
theorem tail_no {w W : World} {r b x : Nat} {P Q A B : Option Addr} {np cp nq dq n c m d : Nat} {s : Stk} (h0 : Below r w W) (hz : W.heap[r]? = some (.cells #[.slice none 0 0, .slice none 0 0] 30 (0, 0))) (hb : W.heap[b]? = some (.cells #[.slice P np cp, .slice Q nq dq] 30 (0, 0))) (hx : W.heap[x]? = some (.cells #[.slice P np cp, .slice Q nq dq] 30 (0, 0)))
    (hv : StIs elP W (.agg #[.slice P np cp, .slice Q nq dq]) s) (hrb : r < b) (hbx : b < x) :
    Below r w ((W.setCell ⟨x, 0, none⟩ (.slice A n c)).setCell ⟨x, 1, none⟩ (.slice B m d)) ∧ ((W.setCell ⟨x, 0, none⟩ (.slice A n c)).setCell ⟨x, 1, none⟩ (.slice B m d)).heap[r]? = some (.cells #[.slice none 0 0, .slice none 0 0] 30 (0, 0)) ∧ StAt elP ((W.setCell ⟨x, 0, none⟩ (.slice A n c)).setCell ⟨x, 1, none⟩ (.slice B m d)) b s := by
  have e1 := chg2 W x (.slice A n c) (.slice B m d)
  exact ⟨(h0.setCell (p := ⟨x, 0, none⟩) (by show r ≤ x; omega) _).setCell (p := ⟨x, 1, none⟩) (by show r ≤ x; omega) _, (e1 r (lt_of_heap hz) (by intro e; have := Option.some.inj e; omega)).trans hz, P, np, cp, Q, nq, dq, (e1 b (lt_of_heap hb) (by intro e; have := Option.some.inj e; omega)).trans hb, hv.beside (nointS hx) e1 (by rw [set_size, set_size]; exact Nat.le_refl _)⟩
theorem stepA_yes {s ms : Stk} {a : Act9} {ee : Int} (h : act s a = (ms, ee)) (he : (ee == 0) = true) : stepA s a = ms := by
  unfold stepA
  rw [h, if_pos (by simpa using he)]
theorem stepA_no {s ms : Stk} {a : Act9} {ee : Int} (h : act s a = (ms, ee)) (he : (ee == 0) = false) : stepA s a = s := by
  unfold stepA
  rw [h, if_neg (by simpa using he)]
def GrEnds (s : Stk) (w : World) (e : Ending) (w' : World) : Prop := (∃ P n c Q m d, e = .returned (.agg #[.slice P n c, .slice Q m d]) ∧ StIs elP w' (.agg #[.slice P n c, .slice Q m d]) s) ∧ Below w.heap.size w w'
end Go.Proofs.Ytlappkflnlbfcaa.Stk
