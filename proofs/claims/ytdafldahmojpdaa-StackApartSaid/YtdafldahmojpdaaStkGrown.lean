/- What things that are done make of a stack of nothing, walked. -/
import Derived.Test.YtdafldahmojpdaaStkActs
import Derived.Deep.RegionLaw
namespace Go.Proofs.Ytdafldahmojpdaa.Stk
open Go.RowKit Row9
set_option maxRecDepth 100000
set_option maxHeartbeats 20000000
set_option linter.unusedVariables false
theorem nointS {w : World} {r : Nat} {t : TypeId} {P Q : Option Addr} {n c m d : Nat} (h : w.heap[r]? = some (.cells #[.slice P n c, .slice Q m d] t (0, 0))) : NoInt w r := fun i k x e => by
  rw [(cells_at h i).1] at e
  match i, e with
  | 0, e => cases e
  | 1, e => cases e
  | i + 2, e => cases e
theorem StIs.form {T : El CtV} {w : World} {v : Value} {s : Stk} (h : StIs T w v s) : ∃ P n c Q m d, v = .agg #[.slice P n c, .slice Q m d] := by
  obtain ⟨a, c, l, rfl, ha, hc, hl⟩ := h
  obtain ⟨P, k, rfl, _⟩ := ha.form
  obtain ⟨Q, d, rfl, _⟩ := hc.form
  exact ⟨_, _, _, _, _, _, rfl⟩
/-- A stack stays where another is stored in a variable of two slices. -/
theorem StIs.beside {e : TypeId} {hi} {w w' : World} {r : Nat} {v : Value} {s : Stk} (h : StIs (elCt e hi) w v s) (hr : NoInt w r) (hc : Chg w w' (some r)) (hs : w.heap.size ≤ w'.heap.size) : StIs (elCt e hi) w' v s := by
  obtain ⟨a, c, l, h1, h2, h3, h4⟩ := h
  exact ⟨a, c, l, h1, row_besideB h2 hr hc hs, row_besideC h3 hr hc hs, h4⟩
/-- A stack in a variable. -/
def StAt (T : El CtV) (w : World) (b : Nat) (s : Stk) : Prop := ∃ P n c Q m d, w.heap[b]? = some (.cells #[.slice P n c, .slice Q m d] 30 (0, 0)) ∧ StIs T w (.agg #[.slice P n c, .slice Q m d]) s
theorem StAt.keep {T : El CtV} {w w' : World} {b : Nat} {s : Stk} (h : StAt T w b s) (hb : Below w.heap.size w w') : StAt T w' b s := by
  obtain ⟨P, n, c, Q, m, d, h1, h2⟩ := h
  exact ⟨P, n, c, Q, m, d, (hb.block b (lt_of_heap h1)).trans h1, h2.keep hb⟩
theorem OpTold.of {r : Stk × Int} {w w' : World} {e : Ending} (h : OpTold r w e w') : ∃ P n c Q m d, e = .returned (.tuple #[.agg #[.slice P n c, .slice Q m d], .int .i64 r.2]) ∧ StIs elP w' (.agg #[.slice P n c, .slice Q m d]) r.1 ∧ Below w.heap.size w w' := by
  obtain ⟨⟨v, rfl, hv⟩, hb⟩ := h
  obtain ⟨P, n, c, Q, m, d, rfl⟩ := hv.form
  exact ⟨P, n, c, Q, m, d, rfl, hv, hb⟩
theorem PopEnds.of {r : Stk × Int × Int} {w w' : World} {e : Ending} (h : PopEnds r w e w') : ∃ P n c Q m d, e = .returned (.tuple #[.agg #[.slice P n c, .slice Q m d], .int .u8 r.2.1, .int .i64 r.2.2]) ∧ StIs elP w' (.agg #[.slice P n c, .slice Q m d]) r.1 ∧ Below w.heap.size w w' := by
  obtain ⟨⟨v, rfl, hv⟩, hb⟩ := h
  obtain ⟨P, n, c, Q, m, d, rfl⟩ := hv.form
  exact ⟨P, n, c, Q, m, d, rfl, hv, hb⟩
theorem CloseEnds.of {r : Stk × Ctl × Int} {w w' : World} {e : Ending} (h : CloseEnds r w e w') : ∃ P n c Q m d R k f, e = .returned (.tuple #[.agg #[.slice P n c, .slice Q m d], .agg #[.int .i64 r.2.1.op, .slice R k f, .int .i64 r.2.1.ht, .bool r.2.1.dead], .int .i64 r.2.2]) ∧ StIs elP w' (.agg #[.slice P n c, .slice Q m d]) r.1 ∧ Row elB w' (.slice R k f) r.2.1.fin ∧ Below w.heap.size w w' := by
  obtain ⟨⟨v, u, rfl, hv, hu⟩, hb⟩ := h
  obtain ⟨P, n, c, Q, m, d, rfl⟩ := hv.form
  obtain ⟨R, f, rfl, _⟩ := hu.form
  exact ⟨P, n, c, Q, m, d, _, _, _, rfl, hv, hu, hb⟩
/-- The program's calls, of a stack as a value. -/
theorem Push_st {v x : Value} {s : Stk} {xs : List Int} {w : World} (h : StIs elP w v s) (hx : Row elB w x xs) (h1 : s.vals.length ≤ 400000) (h2 : s.cs.length ≤ 400000) (h3 : xs.length ≤ 400000) : Calls Try.prog 12 #[v, x] w (OpTold (pushS s xs) w) := by
  obtain ⟨a, c, l, rfl, ha, hc, hl⟩ := h
  rw [pushS_is]
  obtain ⟨vals, cs⟩ := s
  subst hl
  exact Push_any ha hc hx h3 h1 (by simpa using h2)
theorem Want_st {v x : Value} {s : Stk} {xs : List Int} {w : World} (h : StIs elP w v s) (hx : Row elB w x xs) (h1 : s.vals.length ≤ 400000) (h2 : s.cs.length ≤ 400000) (h3 : xs.length ≤ 400000) : Calls Try.prog 18 #[v, x] w (OpTold (wantS s xs) w) := by
  obtain ⟨a, c, l, rfl, ha, hc, hl⟩ := h
  rw [wantS_is]
  obtain ⟨vals, cs⟩ := s
  subst hl
  exact Want_any ha hc hx h3 h1 (by simpa using h2)
theorem Open_st {v x : Value} {s : Stk} {xs : List Int} {op : Int} {w : World} (h : StIs elP w v s) (hx : Row elB w x xs) (ho : w64 op) (h1 : s.vals.length ≤ 400000) (h2 : s.cs.length ≤ 400000) (h3 : xs.length ≤ 400000) : Calls Try.prog 20 #[v, .int .i64 op, x] w (OpTold (openS s op xs) w) := by
  obtain ⟨a, c, l, rfl, ha, hc, hl⟩ := h
  rw [openS_is]
  obtain ⟨vals, cs⟩ := s
  subst hl
  exact Open_any ha hc hx h3 ho h1 (by simpa using h2)
theorem Kill_st {v : Value} {s : Stk} {w : World} (h : StIs elP w v s) (h1 : s.vals.length ≤ 400000) (h2 : s.cs.length ≤ 400000) : Calls Try.prog 24 #[v] w (OpTold (killS s) w) := by
  obtain ⟨a, c, l, rfl, ha, hc, hl⟩ := h
  rw [killS_is]
  obtain ⟨vals, cs⟩ := s
  subst hl
  exact Kill_any ha hc h1 (by simpa using h2)
theorem Pop_st {v : Value} {s : Stk} {w : World} (h : StIs elP w v s) (h1 : s.vals.length ≤ 400000) (h2 : s.cs.length ≤ 400000) : Calls Try.prog 14 #[v] w (PopEnds (popS s) w) := by
  obtain ⟨a, c, l, rfl, ha, hc, hl⟩ := h
  obtain ⟨vals, cs⟩ := s
  subst hl
  exact Pop_any ha hc h1 (by simpa using h2)
theorem Close_st {v : Value} {s : Stk} {w : World} (h : StIs elP w v s) (h1 : s.vals.length ≤ 400000) (h2 : s.cs.length ≤ 400000) : Calls Try.prog 22 #[v] w (CloseEnds (closeS s) w) := by
  obtain ⟨a, c, l, rfl, ha, hc, hl⟩ := h
  obtain ⟨vals, cs⟩ := s
  subst hl
  exact Close_any ha hc h1 (by simpa using h2)
theorem Sane_st {v : Value} {s : Stk} {w : World} (h : StIs elP w v s) : Calls Try.prog 30 #[v] w fun e w' => e = .returned (.bool (sane s)) ∧ Below w.heap.size w w' := by
  obtain ⟨a, c, l, rfl, ha, hc, hl⟩ := h
  obtain ⟨vals, cs⟩ := s
  subst hl
  exact sane_any ha hc
theorem act_push {s : Stk} {a : Act9} (h : a.what = 0 ∨ a.what = 1) : act s a = pushS s a.L := by unfold act; rw [if_pos h]
theorem act_pop {s : Stk} {a : Act9} (h : a.what = 2) : act s a = ((popS s).1, (popS s).2.2) := by unfold act; rw [if_neg (by omega), if_pos h]
theorem act_want {s : Stk} {a : Act9} (h : a.what = 3 ∨ a.what = 4) : act s a = wantS s a.L := by unfold act; rw [if_neg (by omega), if_neg (by omega), if_pos h]
theorem act_open {s : Stk} {a : Act9} (h : a.what = 5) : act s a = openS s a.op a.L := by unfold act; rw [if_neg (by omega), if_neg (by omega), if_neg (by omega), if_pos h]
theorem act_close {s : Stk} {a : Act9} (h : a.what = 6) : act s a = ((closeS s).1, (closeS s).2.2) := by unfold act; rw [if_neg (by omega), if_neg (by omega), if_neg (by omega), if_neg (by omega), if_pos h]
theorem act_kill {s : Stk} {a : Act9} (h : a.what = 7) : act s a = killS s := by unfold act; rw [if_neg (by omega), if_neg (by omega), if_neg (by omega), if_neg (by omega), if_neg (by omega), if_pos h]
theorem act_none {s : Stk} {a : Act9} (h : ¬ (0 ≤ a.what ∧ a.what ≤ 7)) : act s a = (s, 1) := by unfold act; rw [if_neg (by omega), if_neg (by omega), if_neg (by omega), if_neg (by omega), if_neg (by omega), if_neg (by omega)]
theorem tail_yes {w W : World} {r b x : Nat} {P Q A B : Option Addr} {np cp nq dq n c m d : Nat} {s : Stk} (h0 : Below r w W) (hz : W.heap[r]? = some (.cells #[.slice none 0 0, .slice none 0 0] 30 (0, 0))) (hb : W.heap[b]? = some (.cells #[.slice P np cp, .slice Q nq dq] 30 (0, 0))) (hx : W.heap[x]? = some (.cells #[.slice P np cp, .slice Q nq dq] 30 (0, 0)))
    (hv : StIs elP W (.agg #[.slice A n c, .slice B m d]) s) (hrb : r < b) (hbx : b < x) :
    Below r w ((((W.setCell ⟨x, 0, none⟩ (.slice A n c)).setCell ⟨x, 1, none⟩ (.slice B m d)).setCell ⟨b, 0, none⟩ (.slice A n c)).setCell ⟨b, 1, none⟩ (.slice B m d)) ∧ ((((W.setCell ⟨x, 0, none⟩ (.slice A n c)).setCell ⟨x, 1, none⟩ (.slice B m d)).setCell ⟨b, 0, none⟩ (.slice A n c)).setCell ⟨b, 1, none⟩ (.slice B m d)).heap[r]? = some (.cells #[.slice none 0 0, .slice none 0 0] 30 (0, 0)) ∧ StAt elP ((((W.setCell ⟨x, 0, none⟩ (.slice A n c)).setCell ⟨x, 1, none⟩ (.slice B m d)).setCell ⟨b, 0, none⟩ (.slice A n c)).setCell ⟨b, 1, none⟩ (.slice B m d)) b s := by
  have e1 := chg2 W x (.slice A n c) (.slice B m d)
  have hz1 := (e1 r (lt_of_heap hz) (by intro e; have := Option.some.inj e; omega)).trans hz
  have hb1 := (e1 b (lt_of_heap hb) (by intro e; have := Option.some.inj e; omega)).trans hb
  have hv1 := hv.beside (nointS hx) e1 (by rw [set_size, set_size]; exact Nat.le_refl _)
  have h1 : Below r w ((W.setCell ⟨x, 0, none⟩ (.slice A n c)).setCell ⟨x, 1, none⟩ (.slice B m d)) := (h0.setCell (p := ⟨x, 0, none⟩) (by show r ≤ x; omega) _).setCell (p := ⟨x, 1, none⟩) (by show r ≤ x; omega) _
  generalize (W.setCell ⟨x, 0, none⟩ (.slice A n c)).setCell ⟨x, 1, none⟩ (.slice B m d) = W1 at *
  have e2 := chg2 W1 b (.slice A n c) (.slice B m d)
  refine ⟨(h1.setCell (p := ⟨b, 0, none⟩) (by show r ≤ b; omega) _).setCell (p := ⟨b, 1, none⟩) (by show r ≤ b; omega) _, (e2 r (lt_of_heap hz1) (by intro e; have := Option.some.inj e; omega)).trans hz1, A, n, c, B, m, d, ?_, hv1.beside (nointS hb1) e2 (by rw [set_size, set_size]; exact Nat.le_refl _)⟩
  rw [set_heap (set_heap hb1 _) _]
  rfl
theorem tail_no {w W : World} {r b x : Nat} {P Q A B : Option Addr} {np cp nq dq n c m d : Nat} {s : Stk} (h0 : Below r w W) (hz : W.heap[r]? = some (.cells #[.slice none 0 0, .slice none 0 0] 30 (0, 0))) (hb : W.heap[b]? = some (.cells #[.slice P np cp, .slice Q nq dq] 30 (0, 0))) (hx : W.heap[x]? = some (.cells #[.slice P np cp, .slice Q nq dq] 30 (0, 0)))
    (hv : StIs elP W (.agg #[.slice P np cp, .slice Q nq dq]) s) (hrb : r < b) (hbx : b < x) :
    Below r w ((W.setCell ⟨x, 0, none⟩ (.slice A n c)).setCell ⟨x, 1, none⟩ (.slice B m d)) ∧ ((W.setCell ⟨x, 0, none⟩ (.slice A n c)).setCell ⟨x, 1, none⟩ (.slice B m d)).heap[r]? = some (.cells #[.slice none 0 0, .slice none 0 0] 30 (0, 0)) ∧ StAt elP ((W.setCell ⟨x, 0, none⟩ (.slice A n c)).setCell ⟨x, 1, none⟩ (.slice B m d)) b s := by
  have e1 := chg2 W x (.slice A n c) (.slice B m d)
  exact ⟨(h0.setCell (p := ⟨x, 0, none⟩) (by show r ≤ x; omega) _).setCell (p := ⟨x, 1, none⟩) (by show r ≤ x; omega) _, (e1 r (lt_of_heap hz) (by intro e; have := Option.some.inj e; omega)).trans hz, P, np, cp, Q, nq, dq, (e1 b (lt_of_heap hb) (by intro e; have := Option.some.inj e; omega)).trans hb, hv.beside (nointS hx) e1 (by rw [set_size, set_size]; exact Nat.le_refl _)⟩
theorem stepA_yes {s ms : Stk} {a : Act9} {ee : Int} (h : act s a = (ms, ee)) (he : (ee == 0) = true) : stepA s a = ms := by
  unfold stepA
  rw [h, if_pos (by simpa using he)]
theorem stepA_no {s ms : Stk} {a : Act9} {ee : Int} (h : act s a = (ms, ee)) (he : (ee == 0) = false) : stepA s a = s := by
  unfold stepA
  rw [h, if_neg (by simpa using he)]
def GrEnds (s : Stk) (w : World) (e : Ending) (w' : World) : Prop := (∃ P n c Q m d, e = .returned (.agg #[.slice P n c, .slice Q m d]) ∧ StIs elP w' (.agg #[.slice P n c, .slice Q m d]) s) ∧ Below w.heap.size w w'
theorem grown_any {v : Value} {l : List ActV} {w : World} (h : Row elA w v l) (hf : fewL (l.map (·.1)) = true) : Calls Try.prog 33 #[v] w (GrEnds (grow (l.map (·.1))) w) := by
  obtain ⟨A, c, rfl, hc, hm⟩ := h.form
  obtain ⟨n, hn⟩ : ∃ n, l.length = n := ⟨_, rfl⟩
  rw [hn] at h hc ⊢
  have HH := Lib.hid h
  have HN := Lib.hid hn
  have HF : Hid (n ≤ 100 ∧ ∀ p ∈ l, p.1.L.length ≤ 20) := by
    unfold fewL at hf
    simp only [Bool.and_eq_true, decide_eq_true_eq, List.all_eq_true, List.length_map, hn] at hf
    exact ⟨hf.1, fun p hp => hf.2 p.1 (List.mem_map_of_mem hp)⟩
  have HB2 := Lib.hid (below2 w (.cells #[.slice none 0 0, .slice none 0 0] 30) (.cells #[.slice none 0 0, .slice none 0 0] 30))
  have HZ := Lib.hid (heap_new w (.cells #[.slice none 0 0, .slice none 0 0] 30))
  have HZ0 := Lib.hid ((below_new (w.alloc (.cells #[.slice none 0 0, .slice none 0 0] 30)) (.cells #[.slice none 0 0, .slice none 0 0] 30)).block w.heap.size (by rw [size_new]; omega) |>.trans HZ.out)
  have HX := Lib.hid (heap_new (w.alloc (.cells #[.slice none 0 0, .slice none 0 0] 30)) (.cells #[.slice none 0 0, .slice none 0 0] 30))
  simp only [size_new] at HX
  clear h hn hc hm hf HZ
  go_enter Try.func33, Try.ntmps33
  go_wp2_with fail
  generalize (w.alloc (.cells #[.slice none 0 0, .slice none 0 0] 30)).alloc (.cells #[.slice none 0 0, .slice none 0 0] 30) = w2 at *
  obtain ⟨b, hb⟩ : ∃ b, w.heap.size + 1 = b := ⟨_, rfl⟩
  obtain ⟨r, hr⟩ : ∃ r, w.heap.size = r := ⟨_, rfl⟩
  have HR : Hid (r < b) := by show _ < _; omega
  rw [hb] at HX
  rw [hr] at HZ0
  simp only [hb]
  clear hb
  rw [hr] at HB2
  simp only [hr]
  go_loopw [4] (fun i' wr => ∃ i : Nat, i' = .int .i64 (i : Int) ∧ i ≤ n ∧ Below r w wr ∧ wr.heap[r]? = some (.cells #[.slice none 0 0, .slice none 0 0] 30 (0, 0)) ∧ StAt elP wr b (grow ((l.map (·.1)).take i))) (fun i' _ => n - (intOf i').toNat)
  case atStart => exact ⟨0, by go_num, Nat.zero_le _, HB2.out, HZ0.out, ⟨none, 0, 0, none, 0, 0, HX.out, zS_is _⟩⟩
  case round =>
    obtain ⟨i, rfl, hi, hbe, hz, P, np, cp, Q, nq0, dq, hbl, hst⟩ := hrel
    have HBe := Lib.hid hbe
    have HZr := Lib.hid hz
    have HBl := Lib.hid hbl
    have HSt := Lib.hid hst
    have HRB := Lib.hid (lt_of_heap hbl)
    clear hbe hz hst
    by_cases hlt : i < n
    · obtain ⟨p, hp⟩ : ∃ p, l[i]? = some p := ⟨_, List.getElem?_eq_getElem (by rw [HN.out]; exact hlt)⟩
      have hHr : Row elA wr (.slice A n c) l := HH.out.keep (by rw [hr]; exact HBe.out)
      obtain ⟨g, off, rfl, hg, k0, k1, k2, hO, hw1, hw2⟩ := act_at hHr hp
      obtain ⟨PL, cL, hpl, _⟩ := hO.form
      obtain ⟨nL, hnL⟩ : ∃ nL, p.1.L.length = nL := ⟨_, rfl⟩
      rw [hnL] at hpl
      rw [hpl] at k2 hO
      have hL20 : nL ≤ 20 := by rw [← hnL]; exact HF.out.2 p (List.mem_of_getElem? hp)
      have hgr : grow ((l.map (·.1)).take (i + 1)) = stepA (grow ((l.map (·.1)).take i)) p.1 := grow_take (by rw [List.getElem?_map, hp]; rfl)
      have hlen : (grow ((l.map (·.1)).take i)).vals.length ≤ 400000 ∧ (grow ((l.map (·.1)).take i)).cs.length ≤ 400000 := by
        have := foldl_le ((l.map (·.1)).take i) none_ (fun a ha => by
          obtain ⟨q, hq, rfl⟩ := List.mem_map.1 (List.mem_of_mem_take ha)
          exact HF.out.2 q hq)
        have e1 : none_.vals.length = 0 := rfl
        have e2 : none_.cs.length = 0 := rfl
        have e3 : ((l.map (·.1)).take i).length ≤ 100 := by rw [List.length_take]; have := HF.out.1; omega
        unfold grow
        omega
      obtain ⟨s, hs⟩ : ∃ s, grow ((l.map (·.1)).take i) = s := ⟨_, rfl⟩
      rw [hs] at hgr hlen HSt
      have HGR := Lib.hid hgr
      have HLen := Lib.hid hlen
      have HO := Lib.hid hO
      obtain ⟨⟨wh, op, L⟩, pv⟩ := p
      simp only at hpl
      subst hpl
      simp only at k0 k1 k2 HO HGR hw1 hw2 hnL
      have HOP := Lib.hid hw2
      have HNL : Hid (L.length ≤ 400000) := by show _ ≤ _; omega
      obtain ⟨qq, hqq⟩ : ∃ qq, off + i * 3 = qq := ⟨_, rfl⟩
      rw [hqq] at k0 k1 k2
      have i1 : (0 : Int) ≤ (i : Int) := by omega
      have i2 : (i : Int) < (n : Int) := by omega
      have hw3 : IntKind.i64.wrap ((i : Int) + 1) = (i : Int) + 1 := IntWalk.i64_in _ (by have := HF.out.1; omega)
      obtain ⟨c0, c1⟩ : wr.cell? ⟨b, 0, none⟩ = some (.slice P np cp) ∧ wr.cell? ⟨b, 1, none⟩ = some (.slice Q nq0 dq) := ⟨(cells_at hbl 0).1, (cells_at hbl 1).1⟩
      have HBn := Lib.hid (below_new wr (.cells #[.slice P np cp, .slice Q nq0 dq] 30))
      have HXn := Lib.hid (heap_new wr (.cells #[.slice P np cp, .slice Q nq0 dq] 30))
      have hbs : b < wr.heap.size := HRB.out
      clear hp hHr hO hgr hlen hs hL20 hnL hbl hw1 hw2
      by_cases hk0 : wh = 0
      · subst hk0
        have HA : Hid (act s ⟨0, op, L⟩ = pushS s L) := act_push (.inl rfl)
        go_wp2_with fail
        generalize wr.alloc (.cells #[.slice P np cp, .slice Q nq0 dq] 30) = w5 at *
        obtain ⟨x, hx⟩ : ∃ x, wr.heap.size = x := ⟨_, rfl⟩
        have hgx : g < x := by rw [← hx]; exact hg
        have hbx : b < x := by rw [← hx]; exact HRB.out
        rw [hx] at HXn
        simp only [hx]
        have HS5 := Lib.hid (HSt.out.keep HBn.out)
        have HO5 := Lib.hid (HO.out.keep HBn.out)
        have b0 := (HBn.out.cell (p := ⟨b, 0, none⟩) HRB.out).trans c0
        have b1 := (HBn.out.cell (p := ⟨b, 1, none⟩) HRB.out).trans c1
        have a1 := (HBn.out.cell (p := ⟨g, qq + 1, none⟩) hg).trans k1
        have a2 := (HBn.out.cell (p := ⟨g, qq + 2, none⟩) hg).trans k2
        have HBl5 := Lib.hid ((HBn.out.block b HRB.out).trans HBl.out)
        have hzr := (HBn.out.block r (by have := HR.out; have := HRB.out; omega)).trans HZr.out
        have HZ5 := Lib.hid hzr
        have HBe5 : Hid (Below r w w5) := HBe.out.trans (HBn.out.mono (by have := HR.out; have := HRB.out; omega))
        have HG5 := Lib.hid (World.block_lt_of_cell? w5 _ a2)
        have HX5 := Lib.hid (lt_of_heap HXn.out)
        have HB5 := Lib.hid (lt_of_heap HBl5.out)
        have HZ5l := Lib.hid (lt_of_heap hzr)
        have HD5 := Lib.hid (below_drew1 w5)
        have HXR : Hid (r < x ∧ b < x) := ⟨by have := HR.out; omega, hbx⟩
        clear hzr hgx hbx hx c0 c1 k0 k1 k2 hg hbs
        have HC := Lib.hid (Push_st (HS5.out.keep HD5.out) (HO5.out.keep HD5.out) HLen.out.1 HLen.out.2 HNL.out)
        obtain ⟨⟨ms, ee⟩, hrr⟩ : ∃ rr, pushS s L = rr := ⟨_, rfl⟩
        rw [hrr] at HC HA
        clear hrr
        go_region_law (go_simp; go_at_call 12; refine (HC.out).mono ?_; rintro en w6 hen; obtain ⟨P1, n1, c1, P2, n2, c2, rfl, hv, hb6⟩ := hen.of; have HB6 := Lib.hid (HD5.out.trans hb6); have HV := Lib.hid hv; have z0 := (HB6.out.cell (p := ⟨x, 0, none⟩) HX5.out).trans (cells_at HXn.out 0).1; have z1 := (HB6.out.cell (p := ⟨x, 1, none⟩) HX5.out).trans (cells_at HXn.out 1).1; have f0 := (HB6.out.frozen (p := ⟨x, 0, none⟩) HX5.out).trans (cells_at HXn.out 0).2; have f1 := (HB6.out.frozen (p := ⟨x, 1, none⟩) HX5.out).trans (cells_at HXn.out 1).2; have y1 := (HB6.out.cell (p := ⟨g, qq + 1, none⟩) HG5.out).trans a1; have y2 := (HB6.out.cell (p := ⟨g, qq + 2, none⟩) HG5.out).trans a2; have u0 := (HB6.out.cell (p := ⟨b, 0, none⟩) HB5.out).trans b0; have u1 := (HB6.out.cell (p := ⟨b, 1, none⟩) HB5.out).trans b1; have v0 := (HB6.out.frozen (p := ⟨b, 0, none⟩) HB5.out).trans (cells_at HBl5.out 0).2; have v1 := (HB6.out.frozen (p := ⟨b, 1, none⟩) HB5.out).trans (cells_at HBl5.out 1).2; have j1 : x < w6.heap.size := Nat.lt_of_lt_of_le HX5.out HB6.out.size; have j2 : b < w6.heap.size := Nat.lt_of_lt_of_le HB5.out HB6.out.size; clear hv hb6)
        all_goals (
          have NE1 : x ≠ b := by have := HXR.out; omega
          have NE2 : b ≠ x := by have := HXR.out; omega
          have HT0 := Lib.hid ((HBe5.out.trans ((HB6.out).mono (by have := HXR.out; have := HX5.out; omega))))
          have HT1 := Lib.hid (((HB6.out).block r HZ5l.out).trans HZ5.out)
          have HT2 := Lib.hid (((HB6.out).block b HB5.out).trans HBl5.out)
          have HT3 := Lib.hid (((HB6.out).block x HX5.out).trans HXn.out)
          have HT4 := Lib.hid (HS5.out.keep (HB6.out))
          cases hee : (ee == 0) with
          | true =>
            have HY := Lib.hid (tail_yes HT0.out HT1.out HT2.out HT3.out (HV.out) HR.out HXR.out.2)
            have HG := Lib.hid (HGR.out.trans (stepA_yes HA.out hee))
            go_wp2_with fail
            go_roundw
            case rel => exact ⟨i + 1, by go_num, hlt, HY.out.1, HY.out.2.1, by rw [HG.out]; exact HY.out.2.2⟩
            case measure => simp [intOf]; omega
          | false =>
            have HY := Lib.hid (tail_no (A := P1) (n := n1) (c := c1) (B := P2) (m := n2) (d := c2) HT0.out HT1.out HT2.out HT3.out HT4.out HR.out HXR.out.2)
            have HG := Lib.hid (HGR.out.trans (stepA_no HA.out hee))
            go_wp2_with fail
            go_roundw
            case rel => exact ⟨i + 1, by go_num, hlt, HY.out.1, HY.out.2.1, by rw [HG.out]; exact HY.out.2.2⟩
            case measure => simp [intOf]; omega)
      by_cases hk1 : wh = 1
      · subst hk1
        have HA : Hid (act s ⟨1, op, L⟩ = pushS s L) := act_push (.inr rfl)
        go_wp2_with fail
        generalize wr.alloc (.cells #[.slice P np cp, .slice Q nq0 dq] 30) = w5 at *
        obtain ⟨x, hx⟩ : ∃ x, wr.heap.size = x := ⟨_, rfl⟩
        have hgx : g < x := by rw [← hx]; exact hg
        have hbx : b < x := by rw [← hx]; exact HRB.out
        rw [hx] at HXn
        simp only [hx]
        have HS5 := Lib.hid (HSt.out.keep HBn.out)
        have HO5 := Lib.hid (HO.out.keep HBn.out)
        have b0 := (HBn.out.cell (p := ⟨b, 0, none⟩) HRB.out).trans c0
        have b1 := (HBn.out.cell (p := ⟨b, 1, none⟩) HRB.out).trans c1
        have a1 := (HBn.out.cell (p := ⟨g, qq + 1, none⟩) hg).trans k1
        have a2 := (HBn.out.cell (p := ⟨g, qq + 2, none⟩) hg).trans k2
        have HBl5 := Lib.hid ((HBn.out.block b HRB.out).trans HBl.out)
        have hzr := (HBn.out.block r (by have := HR.out; have := HRB.out; omega)).trans HZr.out
        have HZ5 := Lib.hid hzr
        have HBe5 : Hid (Below r w w5) := HBe.out.trans (HBn.out.mono (by have := HR.out; have := HRB.out; omega))
        have HG5 := Lib.hid (World.block_lt_of_cell? w5 _ a2)
        have HX5 := Lib.hid (lt_of_heap HXn.out)
        have HB5 := Lib.hid (lt_of_heap HBl5.out)
        have HZ5l := Lib.hid (lt_of_heap hzr)
        have HD5 := Lib.hid (below_drew1 w5)
        have HXR : Hid (r < x ∧ b < x) := ⟨by have := HR.out; omega, hbx⟩
        clear hzr hgx hbx hx c0 c1 k0 k1 k2 hg hbs
        have HC := Lib.hid (Push_st (HS5.out.keep HD5.out) (HO5.out.keep HD5.out) HLen.out.1 HLen.out.2 HNL.out)
        obtain ⟨⟨ms, ee⟩, hrr⟩ : ∃ rr, pushS s L = rr := ⟨_, rfl⟩
        rw [hrr] at HC HA
        clear hrr
        go_region_law (go_simp; go_at_call 12; refine (HC.out).mono ?_; rintro en w6 hen; obtain ⟨P1, n1, c1, P2, n2, c2, rfl, hv, hb6⟩ := hen.of; have HB6 := Lib.hid (HD5.out.trans hb6); have HV := Lib.hid hv; have z0 := (HB6.out.cell (p := ⟨x, 0, none⟩) HX5.out).trans (cells_at HXn.out 0).1; have z1 := (HB6.out.cell (p := ⟨x, 1, none⟩) HX5.out).trans (cells_at HXn.out 1).1; have f0 := (HB6.out.frozen (p := ⟨x, 0, none⟩) HX5.out).trans (cells_at HXn.out 0).2; have f1 := (HB6.out.frozen (p := ⟨x, 1, none⟩) HX5.out).trans (cells_at HXn.out 1).2; have y1 := (HB6.out.cell (p := ⟨g, qq + 1, none⟩) HG5.out).trans a1; have y2 := (HB6.out.cell (p := ⟨g, qq + 2, none⟩) HG5.out).trans a2; have u0 := (HB6.out.cell (p := ⟨b, 0, none⟩) HB5.out).trans b0; have u1 := (HB6.out.cell (p := ⟨b, 1, none⟩) HB5.out).trans b1; have v0 := (HB6.out.frozen (p := ⟨b, 0, none⟩) HB5.out).trans (cells_at HBl5.out 0).2; have v1 := (HB6.out.frozen (p := ⟨b, 1, none⟩) HB5.out).trans (cells_at HBl5.out 1).2; have j1 : x < w6.heap.size := Nat.lt_of_lt_of_le HX5.out HB6.out.size; have j2 : b < w6.heap.size := Nat.lt_of_lt_of_le HB5.out HB6.out.size; clear hv hb6)
        all_goals (
          have NE1 : x ≠ b := by have := HXR.out; omega
          have NE2 : b ≠ x := by have := HXR.out; omega
          have HT0 := Lib.hid ((HBe5.out.trans ((HB6.out).mono (by have := HXR.out; have := HX5.out; omega))))
          have HT1 := Lib.hid (((HB6.out).block r HZ5l.out).trans HZ5.out)
          have HT2 := Lib.hid (((HB6.out).block b HB5.out).trans HBl5.out)
          have HT3 := Lib.hid (((HB6.out).block x HX5.out).trans HXn.out)
          have HT4 := Lib.hid (HS5.out.keep (HB6.out))
          cases hee : (ee == 0) with
          | true =>
            have HY := Lib.hid (tail_yes HT0.out HT1.out HT2.out HT3.out (HV.out) HR.out HXR.out.2)
            have HG := Lib.hid (HGR.out.trans (stepA_yes HA.out hee))
            go_wp2_with fail
            go_roundw
            case rel => exact ⟨i + 1, by go_num, hlt, HY.out.1, HY.out.2.1, by rw [HG.out]; exact HY.out.2.2⟩
            case measure => simp [intOf]; omega
          | false =>
            have HY := Lib.hid (tail_no (A := P1) (n := n1) (c := c1) (B := P2) (m := n2) (d := c2) HT0.out HT1.out HT2.out HT3.out HT4.out HR.out HXR.out.2)
            have HG := Lib.hid (HGR.out.trans (stepA_no HA.out hee))
            go_wp2_with fail
            go_roundw
            case rel => exact ⟨i + 1, by go_num, hlt, HY.out.1, HY.out.2.1, by rw [HG.out]; exact HY.out.2.2⟩
            case measure => simp [intOf]; omega)
      by_cases hk2 : wh = 2
      · subst hk2
        have HA : Hid (act s ⟨2, op, L⟩ = ((popS s).1, (popS s).2.2)) := act_pop rfl
        go_wp2_with fail
        generalize wr.alloc (.cells #[.slice P np cp, .slice Q nq0 dq] 30) = w5 at *
        obtain ⟨x, hx⟩ : ∃ x, wr.heap.size = x := ⟨_, rfl⟩
        have hgx : g < x := by rw [← hx]; exact hg
        have hbx : b < x := by rw [← hx]; exact HRB.out
        rw [hx] at HXn
        simp only [hx]
        have HS5 := Lib.hid (HSt.out.keep HBn.out)
        have HO5 := Lib.hid (HO.out.keep HBn.out)
        have b0 := (HBn.out.cell (p := ⟨b, 0, none⟩) HRB.out).trans c0
        have b1 := (HBn.out.cell (p := ⟨b, 1, none⟩) HRB.out).trans c1
        have a1 := (HBn.out.cell (p := ⟨g, qq + 1, none⟩) hg).trans k1
        have a2 := (HBn.out.cell (p := ⟨g, qq + 2, none⟩) hg).trans k2
        have HBl5 := Lib.hid ((HBn.out.block b HRB.out).trans HBl.out)
        have hzr := (HBn.out.block r (by have := HR.out; have := HRB.out; omega)).trans HZr.out
        have HZ5 := Lib.hid hzr
        have HBe5 : Hid (Below r w w5) := HBe.out.trans (HBn.out.mono (by have := HR.out; have := HRB.out; omega))
        have HG5 := Lib.hid (World.block_lt_of_cell? w5 _ a2)
        have HX5 := Lib.hid (lt_of_heap HXn.out)
        have HB5 := Lib.hid (lt_of_heap HBl5.out)
        have HZ5l := Lib.hid (lt_of_heap hzr)
        have HD5 := Lib.hid (below_drew1 w5)
        have HXR : Hid (r < x ∧ b < x) := ⟨by have := HR.out; omega, hbx⟩
        clear hzr hgx hbx hx c0 c1 k0 k1 k2 hg hbs
        have HC := Lib.hid (Pop_st HS5.out HLen.out.1 HLen.out.2)
        obtain ⟨⟨ms, vx, ee⟩, hrr⟩ : ∃ rr, popS s = rr := ⟨_, rfl⟩
        rw [hrr] at HC HA
        clear hrr
        refine HC.out.mono ?_
        rintro en w6 hen
        obtain ⟨P1, n1, c1, P2, n2, c2, rfl, hv, hb6⟩ := hen.of
        have HB6 := Lib.hid hb6
        have HV := Lib.hid hv
        have z0 := (HB6.out.cell (p := ⟨x, 0, none⟩) HX5.out).trans (cells_at HXn.out 0).1
        have z1 := (HB6.out.cell (p := ⟨x, 1, none⟩) HX5.out).trans (cells_at HXn.out 1).1
        have f0 := (HB6.out.frozen (p := ⟨x, 0, none⟩) HX5.out).trans (cells_at HXn.out 0).2
        have f1 := (HB6.out.frozen (p := ⟨x, 1, none⟩) HX5.out).trans (cells_at HXn.out 1).2
        have y1 := (HB6.out.cell (p := ⟨g, qq + 1, none⟩) HG5.out).trans a1
        have y2 := (HB6.out.cell (p := ⟨g, qq + 2, none⟩) HG5.out).trans a2
        have u0 := (HB6.out.cell (p := ⟨b, 0, none⟩) HB5.out).trans b0
        have u1 := (HB6.out.cell (p := ⟨b, 1, none⟩) HB5.out).trans b1
        have v0 := (HB6.out.frozen (p := ⟨b, 0, none⟩) HB5.out).trans (cells_at HBl5.out 0).2
        have v1 := (HB6.out.frozen (p := ⟨b, 1, none⟩) HB5.out).trans (cells_at HBl5.out 1).2
        have j1 : x < w6.heap.size := Nat.lt_of_lt_of_le HX5.out HB6.out.size
        have j2 : b < w6.heap.size := Nat.lt_of_lt_of_le HB5.out HB6.out.size
        clear hv hb6
        have NE1 : x ≠ b := by have := HXR.out; omega
        have NE2 : b ≠ x := by have := HXR.out; omega
        have HT0 := Lib.hid ((HBe5.out.trans ((HB6.out).mono (by have := HXR.out; have := HX5.out; omega))))
        have HT1 := Lib.hid (((HB6.out).block r HZ5l.out).trans HZ5.out)
        have HT2 := Lib.hid (((HB6.out).block b HB5.out).trans HBl5.out)
        have HT3 := Lib.hid (((HB6.out).block x HX5.out).trans HXn.out)
        have HT4 := Lib.hid (HS5.out.keep (HB6.out))
        cases hee : (ee == 0) with
        | true =>
          have HY := Lib.hid (tail_yes HT0.out HT1.out HT2.out HT3.out (HV.out) HR.out HXR.out.2)
          have HG := Lib.hid (HGR.out.trans (stepA_yes HA.out hee))
          go_wp2_with fail
          go_roundw
          case rel => exact ⟨i + 1, by go_num, hlt, HY.out.1.trans ((below_new _ (.cells #[.slice P1 n1 c1, .slice P2 n2 c2] 30)).mono (by rw [← hr]; exact HY.out.1.size)), ((below_new _ (.cells #[.slice P1 n1 c1, .slice P2 n2 c2] 30)).block r (lt_of_heap HY.out.2.1)).trans HY.out.2.1, by rw [HG.out]; exact HY.out.2.2.keep (below_new _ (.cells #[.slice P1 n1 c1, .slice P2 n2 c2] 30))⟩
          case measure => simp [intOf]; omega
        | false =>
          have HY := Lib.hid (tail_no (A := P1) (n := n1) (c := c1) (B := P2) (m := n2) (d := c2) HT0.out HT1.out HT2.out HT3.out HT4.out HR.out HXR.out.2)
          have HG := Lib.hid (HGR.out.trans (stepA_no HA.out hee))
          go_wp2_with fail
          go_roundw
          case rel => exact ⟨i + 1, by go_num, hlt, HY.out.1.trans ((below_new _ (.cells #[.slice P1 n1 c1, .slice P2 n2 c2] 30)).mono (by rw [← hr]; exact HY.out.1.size)), ((below_new _ (.cells #[.slice P1 n1 c1, .slice P2 n2 c2] 30)).block r (lt_of_heap HY.out.2.1)).trans HY.out.2.1, by rw [HG.out]; exact HY.out.2.2.keep (below_new _ (.cells #[.slice P1 n1 c1, .slice P2 n2 c2] 30))⟩
          case measure => simp [intOf]; omega
      by_cases hk3 : wh = 3
      · subst hk3
        have HA : Hid (act s ⟨3, op, L⟩ = wantS s L) := act_want (.inl rfl)
        go_wp2_with fail
        generalize wr.alloc (.cells #[.slice P np cp, .slice Q nq0 dq] 30) = w5 at *
        obtain ⟨x, hx⟩ : ∃ x, wr.heap.size = x := ⟨_, rfl⟩
        have hgx : g < x := by rw [← hx]; exact hg
        have hbx : b < x := by rw [← hx]; exact HRB.out
        rw [hx] at HXn
        simp only [hx]
        have HS5 := Lib.hid (HSt.out.keep HBn.out)
        have HO5 := Lib.hid (HO.out.keep HBn.out)
        have b0 := (HBn.out.cell (p := ⟨b, 0, none⟩) HRB.out).trans c0
        have b1 := (HBn.out.cell (p := ⟨b, 1, none⟩) HRB.out).trans c1
        have a1 := (HBn.out.cell (p := ⟨g, qq + 1, none⟩) hg).trans k1
        have a2 := (HBn.out.cell (p := ⟨g, qq + 2, none⟩) hg).trans k2
        have HBl5 := Lib.hid ((HBn.out.block b HRB.out).trans HBl.out)
        have hzr := (HBn.out.block r (by have := HR.out; have := HRB.out; omega)).trans HZr.out
        have HZ5 := Lib.hid hzr
        have HBe5 : Hid (Below r w w5) := HBe.out.trans (HBn.out.mono (by have := HR.out; have := HRB.out; omega))
        have HG5 := Lib.hid (World.block_lt_of_cell? w5 _ a2)
        have HX5 := Lib.hid (lt_of_heap HXn.out)
        have HB5 := Lib.hid (lt_of_heap HBl5.out)
        have HZ5l := Lib.hid (lt_of_heap hzr)
        have HD5 := Lib.hid (below_drew1 w5)
        have HXR : Hid (r < x ∧ b < x) := ⟨by have := HR.out; omega, hbx⟩
        clear hzr hgx hbx hx c0 c1 k0 k1 k2 hg hbs
        have HC := Lib.hid (Want_st (HS5.out.keep HD5.out) (HO5.out.keep HD5.out) HLen.out.1 HLen.out.2 HNL.out)
        obtain ⟨⟨ms, ee⟩, hrr⟩ : ∃ rr, wantS s L = rr := ⟨_, rfl⟩
        rw [hrr] at HC HA
        clear hrr
        go_region_law (go_simp; go_at_call 18; refine (HC.out).mono ?_; rintro en w6 hen; obtain ⟨P1, n1, c1, P2, n2, c2, rfl, hv, hb6⟩ := hen.of; have HB6 := Lib.hid (HD5.out.trans hb6); have HV := Lib.hid hv; have z0 := (HB6.out.cell (p := ⟨x, 0, none⟩) HX5.out).trans (cells_at HXn.out 0).1; have z1 := (HB6.out.cell (p := ⟨x, 1, none⟩) HX5.out).trans (cells_at HXn.out 1).1; have f0 := (HB6.out.frozen (p := ⟨x, 0, none⟩) HX5.out).trans (cells_at HXn.out 0).2; have f1 := (HB6.out.frozen (p := ⟨x, 1, none⟩) HX5.out).trans (cells_at HXn.out 1).2; have y1 := (HB6.out.cell (p := ⟨g, qq + 1, none⟩) HG5.out).trans a1; have y2 := (HB6.out.cell (p := ⟨g, qq + 2, none⟩) HG5.out).trans a2; have u0 := (HB6.out.cell (p := ⟨b, 0, none⟩) HB5.out).trans b0; have u1 := (HB6.out.cell (p := ⟨b, 1, none⟩) HB5.out).trans b1; have v0 := (HB6.out.frozen (p := ⟨b, 0, none⟩) HB5.out).trans (cells_at HBl5.out 0).2; have v1 := (HB6.out.frozen (p := ⟨b, 1, none⟩) HB5.out).trans (cells_at HBl5.out 1).2; have j1 : x < w6.heap.size := Nat.lt_of_lt_of_le HX5.out HB6.out.size; have j2 : b < w6.heap.size := Nat.lt_of_lt_of_le HB5.out HB6.out.size; clear hv hb6)
        all_goals (
          have NE1 : x ≠ b := by have := HXR.out; omega
          have NE2 : b ≠ x := by have := HXR.out; omega
          have HT0 := Lib.hid ((HBe5.out.trans ((HB6.out).mono (by have := HXR.out; have := HX5.out; omega))))
          have HT1 := Lib.hid (((HB6.out).block r HZ5l.out).trans HZ5.out)
          have HT2 := Lib.hid (((HB6.out).block b HB5.out).trans HBl5.out)
          have HT3 := Lib.hid (((HB6.out).block x HX5.out).trans HXn.out)
          have HT4 := Lib.hid (HS5.out.keep (HB6.out))
          cases hee : (ee == 0) with
          | true =>
            have HY := Lib.hid (tail_yes HT0.out HT1.out HT2.out HT3.out (HV.out) HR.out HXR.out.2)
            have HG := Lib.hid (HGR.out.trans (stepA_yes HA.out hee))
            go_wp2_with fail
            go_roundw
            case rel => exact ⟨i + 1, by go_num, hlt, HY.out.1, HY.out.2.1, by rw [HG.out]; exact HY.out.2.2⟩
            case measure => simp [intOf]; omega
          | false =>
            have HY := Lib.hid (tail_no (A := P1) (n := n1) (c := c1) (B := P2) (m := n2) (d := c2) HT0.out HT1.out HT2.out HT3.out HT4.out HR.out HXR.out.2)
            have HG := Lib.hid (HGR.out.trans (stepA_no HA.out hee))
            go_wp2_with fail
            go_roundw
            case rel => exact ⟨i + 1, by go_num, hlt, HY.out.1, HY.out.2.1, by rw [HG.out]; exact HY.out.2.2⟩
            case measure => simp [intOf]; omega)
      by_cases hk4 : wh = 4
      · subst hk4
        have HA : Hid (act s ⟨4, op, L⟩ = wantS s L) := act_want (.inr rfl)
        go_wp2_with fail
        generalize wr.alloc (.cells #[.slice P np cp, .slice Q nq0 dq] 30) = w5 at *
        obtain ⟨x, hx⟩ : ∃ x, wr.heap.size = x := ⟨_, rfl⟩
        have hgx : g < x := by rw [← hx]; exact hg
        have hbx : b < x := by rw [← hx]; exact HRB.out
        rw [hx] at HXn
        simp only [hx]
        have HS5 := Lib.hid (HSt.out.keep HBn.out)
        have HO5 := Lib.hid (HO.out.keep HBn.out)
        have b0 := (HBn.out.cell (p := ⟨b, 0, none⟩) HRB.out).trans c0
        have b1 := (HBn.out.cell (p := ⟨b, 1, none⟩) HRB.out).trans c1
        have a1 := (HBn.out.cell (p := ⟨g, qq + 1, none⟩) hg).trans k1
        have a2 := (HBn.out.cell (p := ⟨g, qq + 2, none⟩) hg).trans k2
        have HBl5 := Lib.hid ((HBn.out.block b HRB.out).trans HBl.out)
        have hzr := (HBn.out.block r (by have := HR.out; have := HRB.out; omega)).trans HZr.out
        have HZ5 := Lib.hid hzr
        have HBe5 : Hid (Below r w w5) := HBe.out.trans (HBn.out.mono (by have := HR.out; have := HRB.out; omega))
        have HG5 := Lib.hid (World.block_lt_of_cell? w5 _ a2)
        have HX5 := Lib.hid (lt_of_heap HXn.out)
        have HB5 := Lib.hid (lt_of_heap HBl5.out)
        have HZ5l := Lib.hid (lt_of_heap hzr)
        have HD5 := Lib.hid (below_drew1 w5)
        have HXR : Hid (r < x ∧ b < x) := ⟨by have := HR.out; omega, hbx⟩
        clear hzr hgx hbx hx c0 c1 k0 k1 k2 hg hbs
        have HC := Lib.hid (Want_st (HS5.out.keep HD5.out) (HO5.out.keep HD5.out) HLen.out.1 HLen.out.2 HNL.out)
        obtain ⟨⟨ms, ee⟩, hrr⟩ : ∃ rr, wantS s L = rr := ⟨_, rfl⟩
        rw [hrr] at HC HA
        clear hrr
        go_region_law (go_simp; go_at_call 18; refine (HC.out).mono ?_; rintro en w6 hen; obtain ⟨P1, n1, c1, P2, n2, c2, rfl, hv, hb6⟩ := hen.of; have HB6 := Lib.hid (HD5.out.trans hb6); have HV := Lib.hid hv; have z0 := (HB6.out.cell (p := ⟨x, 0, none⟩) HX5.out).trans (cells_at HXn.out 0).1; have z1 := (HB6.out.cell (p := ⟨x, 1, none⟩) HX5.out).trans (cells_at HXn.out 1).1; have f0 := (HB6.out.frozen (p := ⟨x, 0, none⟩) HX5.out).trans (cells_at HXn.out 0).2; have f1 := (HB6.out.frozen (p := ⟨x, 1, none⟩) HX5.out).trans (cells_at HXn.out 1).2; have y1 := (HB6.out.cell (p := ⟨g, qq + 1, none⟩) HG5.out).trans a1; have y2 := (HB6.out.cell (p := ⟨g, qq + 2, none⟩) HG5.out).trans a2; have u0 := (HB6.out.cell (p := ⟨b, 0, none⟩) HB5.out).trans b0; have u1 := (HB6.out.cell (p := ⟨b, 1, none⟩) HB5.out).trans b1; have v0 := (HB6.out.frozen (p := ⟨b, 0, none⟩) HB5.out).trans (cells_at HBl5.out 0).2; have v1 := (HB6.out.frozen (p := ⟨b, 1, none⟩) HB5.out).trans (cells_at HBl5.out 1).2; have j1 : x < w6.heap.size := Nat.lt_of_lt_of_le HX5.out HB6.out.size; have j2 : b < w6.heap.size := Nat.lt_of_lt_of_le HB5.out HB6.out.size; clear hv hb6)
        all_goals (
          have NE1 : x ≠ b := by have := HXR.out; omega
          have NE2 : b ≠ x := by have := HXR.out; omega
          have HT0 := Lib.hid ((HBe5.out.trans ((HB6.out).mono (by have := HXR.out; have := HX5.out; omega))))
          have HT1 := Lib.hid (((HB6.out).block r HZ5l.out).trans HZ5.out)
          have HT2 := Lib.hid (((HB6.out).block b HB5.out).trans HBl5.out)
          have HT3 := Lib.hid (((HB6.out).block x HX5.out).trans HXn.out)
          have HT4 := Lib.hid (HS5.out.keep (HB6.out))
          cases hee : (ee == 0) with
          | true =>
            have HY := Lib.hid (tail_yes HT0.out HT1.out HT2.out HT3.out (HV.out) HR.out HXR.out.2)
            have HG := Lib.hid (HGR.out.trans (stepA_yes HA.out hee))
            go_wp2_with fail
            go_roundw
            case rel => exact ⟨i + 1, by go_num, hlt, HY.out.1, HY.out.2.1, by rw [HG.out]; exact HY.out.2.2⟩
            case measure => simp [intOf]; omega
          | false =>
            have HY := Lib.hid (tail_no (A := P1) (n := n1) (c := c1) (B := P2) (m := n2) (d := c2) HT0.out HT1.out HT2.out HT3.out HT4.out HR.out HXR.out.2)
            have HG := Lib.hid (HGR.out.trans (stepA_no HA.out hee))
            go_wp2_with fail
            go_roundw
            case rel => exact ⟨i + 1, by go_num, hlt, HY.out.1, HY.out.2.1, by rw [HG.out]; exact HY.out.2.2⟩
            case measure => simp [intOf]; omega)
      by_cases hk5 : wh = 5
      · subst hk5
        have HA : Hid (act s ⟨5, op, L⟩ = openS s op L) := act_open rfl
        go_wp2_with fail
        generalize wr.alloc (.cells #[.slice P np cp, .slice Q nq0 dq] 30) = w5 at *
        obtain ⟨x, hx⟩ : ∃ x, wr.heap.size = x := ⟨_, rfl⟩
        have hgx : g < x := by rw [← hx]; exact hg
        have hbx : b < x := by rw [← hx]; exact HRB.out
        rw [hx] at HXn
        simp only [hx]
        have HS5 := Lib.hid (HSt.out.keep HBn.out)
        have HO5 := Lib.hid (HO.out.keep HBn.out)
        have b0 := (HBn.out.cell (p := ⟨b, 0, none⟩) HRB.out).trans c0
        have b1 := (HBn.out.cell (p := ⟨b, 1, none⟩) HRB.out).trans c1
        have a1 := (HBn.out.cell (p := ⟨g, qq + 1, none⟩) hg).trans k1
        have a2 := (HBn.out.cell (p := ⟨g, qq + 2, none⟩) hg).trans k2
        have HBl5 := Lib.hid ((HBn.out.block b HRB.out).trans HBl.out)
        have hzr := (HBn.out.block r (by have := HR.out; have := HRB.out; omega)).trans HZr.out
        have HZ5 := Lib.hid hzr
        have HBe5 : Hid (Below r w w5) := HBe.out.trans (HBn.out.mono (by have := HR.out; have := HRB.out; omega))
        have HG5 := Lib.hid (World.block_lt_of_cell? w5 _ a2)
        have HX5 := Lib.hid (lt_of_heap HXn.out)
        have HB5 := Lib.hid (lt_of_heap HBl5.out)
        have HZ5l := Lib.hid (lt_of_heap hzr)
        have HD5 := Lib.hid (below_drew1 w5)
        have HXR : Hid (r < x ∧ b < x) := ⟨by have := HR.out; omega, hbx⟩
        clear hzr hgx hbx hx c0 c1 k0 k1 k2 hg hbs
        have HC := Lib.hid (Open_st (HS5.out.keep HD5.out) (HO5.out.keep HD5.out) HOP.out HLen.out.1 HLen.out.2 HNL.out)
        obtain ⟨⟨ms, ee⟩, hrr⟩ : ∃ rr, openS s op L = rr := ⟨_, rfl⟩
        rw [hrr] at HC HA
        clear hrr
        go_region_law (go_simp; go_at_call 20; refine (HC.out).mono ?_; rintro en w6 hen; obtain ⟨P1, n1, c1, P2, n2, c2, rfl, hv, hb6⟩ := hen.of; have HB6 := Lib.hid (HD5.out.trans hb6); have HV := Lib.hid hv; have z0 := (HB6.out.cell (p := ⟨x, 0, none⟩) HX5.out).trans (cells_at HXn.out 0).1; have z1 := (HB6.out.cell (p := ⟨x, 1, none⟩) HX5.out).trans (cells_at HXn.out 1).1; have f0 := (HB6.out.frozen (p := ⟨x, 0, none⟩) HX5.out).trans (cells_at HXn.out 0).2; have f1 := (HB6.out.frozen (p := ⟨x, 1, none⟩) HX5.out).trans (cells_at HXn.out 1).2; have y1 := (HB6.out.cell (p := ⟨g, qq + 1, none⟩) HG5.out).trans a1; have y2 := (HB6.out.cell (p := ⟨g, qq + 2, none⟩) HG5.out).trans a2; have u0 := (HB6.out.cell (p := ⟨b, 0, none⟩) HB5.out).trans b0; have u1 := (HB6.out.cell (p := ⟨b, 1, none⟩) HB5.out).trans b1; have v0 := (HB6.out.frozen (p := ⟨b, 0, none⟩) HB5.out).trans (cells_at HBl5.out 0).2; have v1 := (HB6.out.frozen (p := ⟨b, 1, none⟩) HB5.out).trans (cells_at HBl5.out 1).2; have j1 : x < w6.heap.size := Nat.lt_of_lt_of_le HX5.out HB6.out.size; have j2 : b < w6.heap.size := Nat.lt_of_lt_of_le HB5.out HB6.out.size; clear hv hb6)
        all_goals (
          have NE1 : x ≠ b := by have := HXR.out; omega
          have NE2 : b ≠ x := by have := HXR.out; omega
          have HT0 := Lib.hid ((HBe5.out.trans ((HB6.out).mono (by have := HXR.out; have := HX5.out; omega))))
          have HT1 := Lib.hid (((HB6.out).block r HZ5l.out).trans HZ5.out)
          have HT2 := Lib.hid (((HB6.out).block b HB5.out).trans HBl5.out)
          have HT3 := Lib.hid (((HB6.out).block x HX5.out).trans HXn.out)
          have HT4 := Lib.hid (HS5.out.keep (HB6.out))
          cases hee : (ee == 0) with
          | true =>
            have HY := Lib.hid (tail_yes HT0.out HT1.out HT2.out HT3.out (HV.out) HR.out HXR.out.2)
            have HG := Lib.hid (HGR.out.trans (stepA_yes HA.out hee))
            go_wp2_with fail
            go_roundw
            case rel => exact ⟨i + 1, by go_num, hlt, HY.out.1, HY.out.2.1, by rw [HG.out]; exact HY.out.2.2⟩
            case measure => simp [intOf]; omega
          | false =>
            have HY := Lib.hid (tail_no (A := P1) (n := n1) (c := c1) (B := P2) (m := n2) (d := c2) HT0.out HT1.out HT2.out HT3.out HT4.out HR.out HXR.out.2)
            have HG := Lib.hid (HGR.out.trans (stepA_no HA.out hee))
            go_wp2_with fail
            go_roundw
            case rel => exact ⟨i + 1, by go_num, hlt, HY.out.1, HY.out.2.1, by rw [HG.out]; exact HY.out.2.2⟩
            case measure => simp [intOf]; omega)
      by_cases hk6 : wh = 6
      · subst hk6
        have HA : Hid (act s ⟨6, op, L⟩ = ((closeS s).1, (closeS s).2.2)) := act_close rfl
        go_wp2_with fail
        generalize wr.alloc (.cells #[.slice P np cp, .slice Q nq0 dq] 30) = w5 at *
        obtain ⟨x, hx⟩ : ∃ x, wr.heap.size = x := ⟨_, rfl⟩
        have hgx : g < x := by rw [← hx]; exact hg
        have hbx : b < x := by rw [← hx]; exact HRB.out
        rw [hx] at HXn
        simp only [hx]
        have HS5 := Lib.hid (HSt.out.keep HBn.out)
        have HO5 := Lib.hid (HO.out.keep HBn.out)
        have b0 := (HBn.out.cell (p := ⟨b, 0, none⟩) HRB.out).trans c0
        have b1 := (HBn.out.cell (p := ⟨b, 1, none⟩) HRB.out).trans c1
        have a1 := (HBn.out.cell (p := ⟨g, qq + 1, none⟩) hg).trans k1
        have a2 := (HBn.out.cell (p := ⟨g, qq + 2, none⟩) hg).trans k2
        have HBl5 := Lib.hid ((HBn.out.block b HRB.out).trans HBl.out)
        have hzr := (HBn.out.block r (by have := HR.out; have := HRB.out; omega)).trans HZr.out
        have HZ5 := Lib.hid hzr
        have HBe5 : Hid (Below r w w5) := HBe.out.trans (HBn.out.mono (by have := HR.out; have := HRB.out; omega))
        have HG5 := Lib.hid (World.block_lt_of_cell? w5 _ a2)
        have HX5 := Lib.hid (lt_of_heap HXn.out)
        have HB5 := Lib.hid (lt_of_heap HBl5.out)
        have HZ5l := Lib.hid (lt_of_heap hzr)
        have HD5 := Lib.hid (below_drew1 w5)
        have HXR : Hid (r < x ∧ b < x) := ⟨by have := HR.out; omega, hbx⟩
        clear hzr hgx hbx hx c0 c1 k0 k1 k2 hg hbs
        have HC := Lib.hid (Close_st HS5.out HLen.out.1 HLen.out.2)
        obtain ⟨⟨ms, mc, ee⟩, hrr⟩ : ∃ rr, closeS s = rr := ⟨_, rfl⟩
        rw [hrr] at HC HA
        clear hrr
        refine HC.out.mono ?_
        rintro en w6 hen
        obtain ⟨P1, n1, c1, P2, n2, c2, P3, n3, c3, rfl, hv, hur, hb6⟩ := hen.of
        have HB6 := Lib.hid hb6
        have HV := Lib.hid hv
        have z0 := (HB6.out.cell (p := ⟨x, 0, none⟩) HX5.out).trans (cells_at HXn.out 0).1
        have z1 := (HB6.out.cell (p := ⟨x, 1, none⟩) HX5.out).trans (cells_at HXn.out 1).1
        have f0 := (HB6.out.frozen (p := ⟨x, 0, none⟩) HX5.out).trans (cells_at HXn.out 0).2
        have f1 := (HB6.out.frozen (p := ⟨x, 1, none⟩) HX5.out).trans (cells_at HXn.out 1).2
        have y1 := (HB6.out.cell (p := ⟨g, qq + 1, none⟩) HG5.out).trans a1
        have y2 := (HB6.out.cell (p := ⟨g, qq + 2, none⟩) HG5.out).trans a2
        have u0 := (HB6.out.cell (p := ⟨b, 0, none⟩) HB5.out).trans b0
        have u1 := (HB6.out.cell (p := ⟨b, 1, none⟩) HB5.out).trans b1
        have v0 := (HB6.out.frozen (p := ⟨b, 0, none⟩) HB5.out).trans (cells_at HBl5.out 0).2
        have v1 := (HB6.out.frozen (p := ⟨b, 1, none⟩) HB5.out).trans (cells_at HBl5.out 1).2
        have j1 : x < w6.heap.size := Nat.lt_of_lt_of_le HX5.out HB6.out.size
        have j2 : b < w6.heap.size := Nat.lt_of_lt_of_le HB5.out HB6.out.size
        clear hv hur hb6
        have NE1 : x ≠ b := by have := HXR.out; omega
        have NE2 : b ≠ x := by have := HXR.out; omega
        have HT0 := Lib.hid ((HBe5.out.trans ((HB6.out).mono (by have := HXR.out; have := HX5.out; omega))))
        have HT1 := Lib.hid (((HB6.out).block r HZ5l.out).trans HZ5.out)
        have HT2 := Lib.hid (((HB6.out).block b HB5.out).trans HBl5.out)
        have HT3 := Lib.hid (((HB6.out).block x HX5.out).trans HXn.out)
        have HT4 := Lib.hid (HS5.out.keep (HB6.out))
        cases hee : (ee == 0) with
        | true =>
          have HY := Lib.hid (tail_yes HT0.out HT1.out HT2.out HT3.out (HV.out) HR.out HXR.out.2)
          have HG := Lib.hid (HGR.out.trans (stepA_yes HA.out hee))
          go_wp2_with fail
          go_roundw
          case rel => exact ⟨i + 1, by go_num, hlt, HY.out.1.trans ((below2 _ (.cells #[.slice P1 n1 c1, .slice P2 n2 c2] 30) (.cells #[.int .i64 mc.op, .slice P3 n3 c3, .int .i64 mc.ht, .bool mc.dead] 46)).mono (by rw [← hr]; exact HY.out.1.size)), ((below2 _ (.cells #[.slice P1 n1 c1, .slice P2 n2 c2] 30) (.cells #[.int .i64 mc.op, .slice P3 n3 c3, .int .i64 mc.ht, .bool mc.dead] 46)).block r (lt_of_heap HY.out.2.1)).trans HY.out.2.1, by rw [HG.out]; exact HY.out.2.2.keep (below2 _ (.cells #[.slice P1 n1 c1, .slice P2 n2 c2] 30) (.cells #[.int .i64 mc.op, .slice P3 n3 c3, .int .i64 mc.ht, .bool mc.dead] 46))⟩
          case measure => simp [intOf]; omega
        | false =>
          have HY := Lib.hid (tail_no (A := P1) (n := n1) (c := c1) (B := P2) (m := n2) (d := c2) HT0.out HT1.out HT2.out HT3.out HT4.out HR.out HXR.out.2)
          have HG := Lib.hid (HGR.out.trans (stepA_no HA.out hee))
          go_wp2_with fail
          go_roundw
          case rel => exact ⟨i + 1, by go_num, hlt, HY.out.1.trans ((below2 _ (.cells #[.slice P1 n1 c1, .slice P2 n2 c2] 30) (.cells #[.int .i64 mc.op, .slice P3 n3 c3, .int .i64 mc.ht, .bool mc.dead] 46)).mono (by rw [← hr]; exact HY.out.1.size)), ((below2 _ (.cells #[.slice P1 n1 c1, .slice P2 n2 c2] 30) (.cells #[.int .i64 mc.op, .slice P3 n3 c3, .int .i64 mc.ht, .bool mc.dead] 46)).block r (lt_of_heap HY.out.2.1)).trans HY.out.2.1, by rw [HG.out]; exact HY.out.2.2.keep (below2 _ (.cells #[.slice P1 n1 c1, .slice P2 n2 c2] 30) (.cells #[.int .i64 mc.op, .slice P3 n3 c3, .int .i64 mc.ht, .bool mc.dead] 46))⟩
          case measure => simp [intOf]; omega
      by_cases hk7 : wh = 7
      · subst hk7
        have HA : Hid (act s ⟨7, op, L⟩ = killS s) := act_kill rfl
        go_wp2_with fail
        generalize wr.alloc (.cells #[.slice P np cp, .slice Q nq0 dq] 30) = w5 at *
        obtain ⟨x, hx⟩ : ∃ x, wr.heap.size = x := ⟨_, rfl⟩
        have hgx : g < x := by rw [← hx]; exact hg
        have hbx : b < x := by rw [← hx]; exact HRB.out
        rw [hx] at HXn
        simp only [hx]
        have HS5 := Lib.hid (HSt.out.keep HBn.out)
        have HO5 := Lib.hid (HO.out.keep HBn.out)
        have b0 := (HBn.out.cell (p := ⟨b, 0, none⟩) HRB.out).trans c0
        have b1 := (HBn.out.cell (p := ⟨b, 1, none⟩) HRB.out).trans c1
        have a1 := (HBn.out.cell (p := ⟨g, qq + 1, none⟩) hg).trans k1
        have a2 := (HBn.out.cell (p := ⟨g, qq + 2, none⟩) hg).trans k2
        have HBl5 := Lib.hid ((HBn.out.block b HRB.out).trans HBl.out)
        have hzr := (HBn.out.block r (by have := HR.out; have := HRB.out; omega)).trans HZr.out
        have HZ5 := Lib.hid hzr
        have HBe5 : Hid (Below r w w5) := HBe.out.trans (HBn.out.mono (by have := HR.out; have := HRB.out; omega))
        have HG5 := Lib.hid (World.block_lt_of_cell? w5 _ a2)
        have HX5 := Lib.hid (lt_of_heap HXn.out)
        have HB5 := Lib.hid (lt_of_heap HBl5.out)
        have HZ5l := Lib.hid (lt_of_heap hzr)
        have HD5 := Lib.hid (below_drew1 w5)
        have HXR : Hid (r < x ∧ b < x) := ⟨by have := HR.out; omega, hbx⟩
        clear hzr hgx hbx hx c0 c1 k0 k1 k2 hg hbs
        have HC := Lib.hid (Kill_st HS5.out HLen.out.1 HLen.out.2)
        obtain ⟨⟨ms, ee⟩, hrr⟩ : ∃ rr, killS s = rr := ⟨_, rfl⟩
        rw [hrr] at HC HA
        clear hrr
        refine HC.out.mono ?_
        rintro en w6 hen
        obtain ⟨P1, n1, c1, P2, n2, c2, rfl, hv, hb6⟩ := hen.of
        have HB6 := Lib.hid hb6
        have HV := Lib.hid hv
        have z0 := (HB6.out.cell (p := ⟨x, 0, none⟩) HX5.out).trans (cells_at HXn.out 0).1
        have z1 := (HB6.out.cell (p := ⟨x, 1, none⟩) HX5.out).trans (cells_at HXn.out 1).1
        have f0 := (HB6.out.frozen (p := ⟨x, 0, none⟩) HX5.out).trans (cells_at HXn.out 0).2
        have f1 := (HB6.out.frozen (p := ⟨x, 1, none⟩) HX5.out).trans (cells_at HXn.out 1).2
        have y1 := (HB6.out.cell (p := ⟨g, qq + 1, none⟩) HG5.out).trans a1
        have y2 := (HB6.out.cell (p := ⟨g, qq + 2, none⟩) HG5.out).trans a2
        have u0 := (HB6.out.cell (p := ⟨b, 0, none⟩) HB5.out).trans b0
        have u1 := (HB6.out.cell (p := ⟨b, 1, none⟩) HB5.out).trans b1
        have v0 := (HB6.out.frozen (p := ⟨b, 0, none⟩) HB5.out).trans (cells_at HBl5.out 0).2
        have v1 := (HB6.out.frozen (p := ⟨b, 1, none⟩) HB5.out).trans (cells_at HBl5.out 1).2
        have j1 : x < w6.heap.size := Nat.lt_of_lt_of_le HX5.out HB6.out.size
        have j2 : b < w6.heap.size := Nat.lt_of_lt_of_le HB5.out HB6.out.size
        clear hv hb6
        have NE1 : x ≠ b := by have := HXR.out; omega
        have NE2 : b ≠ x := by have := HXR.out; omega
        have HT0 := Lib.hid ((HBe5.out.trans ((HB6.out).mono (by have := HXR.out; have := HX5.out; omega))))
        have HT1 := Lib.hid (((HB6.out).block r HZ5l.out).trans HZ5.out)
        have HT2 := Lib.hid (((HB6.out).block b HB5.out).trans HBl5.out)
        have HT3 := Lib.hid (((HB6.out).block x HX5.out).trans HXn.out)
        have HT4 := Lib.hid (HS5.out.keep (HB6.out))
        cases hee : (ee == 0) with
        | true =>
          have HY := Lib.hid (tail_yes HT0.out HT1.out HT2.out HT3.out (HV.out) HR.out HXR.out.2)
          have HG := Lib.hid (HGR.out.trans (stepA_yes HA.out hee))
          go_wp2_with fail
          go_roundw
          case rel => exact ⟨i + 1, by go_num, hlt, HY.out.1, HY.out.2.1, by rw [HG.out]; exact HY.out.2.2⟩
          case measure => simp [intOf]; omega
        | false =>
          have HY := Lib.hid (tail_no (A := P1) (n := n1) (c := c1) (B := P2) (m := n2) (d := c2) HT0.out HT1.out HT2.out HT3.out HT4.out HR.out HXR.out.2)
          have HG := Lib.hid (HGR.out.trans (stepA_no HA.out hee))
          go_wp2_with fail
          go_roundw
          case rel => exact ⟨i + 1, by go_num, hlt, HY.out.1, HY.out.2.1, by rw [HG.out]; exact HY.out.2.2⟩
          case measure => simp [intOf]; omega
      have HA : Hid (act s ⟨wh, op, L⟩ = (s, 1)) := act_none (by show ¬ (0 ≤ wh ∧ wh ≤ 7); omega)
      have HG := Lib.hid (HGR.out.trans (stepA_no HA.out (by decide)))
      have HY : Hid (StAt elP (wr.alloc (.cells #[.slice P np cp, .slice Q nq0 dq] 30)) b s) := StAt.keep ⟨P, np, cp, Q, nq0, dq, HBl.out, HSt.out⟩ HBn.out
      have HY1 : Hid (Below r w (wr.alloc (.cells #[.slice P np cp, .slice Q nq0 dq] 30))) := HBe.out.trans (HBn.out.mono (by have := HR.out; have := HRB.out; omega))
      have HY2 := Lib.hid ((HBn.out.block r (by have := HR.out; have := HRB.out; omega)).trans HZr.out)
      have m0 : (wh == 0) = false := by simpa using hk0
      have m1 : (wh == 1) = false := by simpa using hk1
      have m2 : (wh == 2) = false := by simpa using hk2
      have m3 : (wh == 3) = false := by simpa using hk3
      have m4 : (wh == 4) = false := by simpa using hk4
      have m5 : (wh == 5) = false := by simpa using hk5
      have m6 : (wh == 6) = false := by simpa using hk6
      have m7 : (wh == 7) = false := by simpa using hk7
      clear hk0 hk1 hk2 hk3 hk4 hk5 hk6 hk7
      go_wp2_with fail
      go_roundw
      case rel => exact ⟨i + 1, by go_num, hlt, HY1.out, HY2.out, by rw [HG.out]; exact HY.out⟩
      case measure => simp [intOf]; omega
    · obtain rfl : i = n := by omega
      have HL : Hid (grow ((l.map (·.1)).take i) = grow (l.map (·.1))) := by show _ = _; rw [List.take_of_length_le (by rw [List.length_map, HN.out]; exact Nat.le_refl _)]
      rw [HL.out] at HSt
      have hzr := HZr.out
      obtain ⟨c0, c1⟩ : wr.cell? ⟨b, 0, none⟩ = some (.slice P np cp) ∧ wr.cell? ⟨b, 1, none⟩ = some (.slice Q nq0 dq) := ⟨(cells_at hbl 0).1, (cells_at hbl 1).1⟩
      obtain ⟨q0, p0⟩ := cells_at hzr 0
      obtain ⟨q1, p1⟩ := cells_at hzr 1
      simp only [List.getElem?_toArray, List.getElem?_cons_zero, List.getElem?_cons_succ] at q0 q1
      have HV := Lib.hid (HSt.out.beside (noint2 HZr.out) (chg2 wr r (.slice P np cp) (.slice Q nq0 dq)) (by rw [set_size, set_size]; exact Nat.le_refl _))
      have HF2 := Lib.hid ((HBe.out.setCell (p := ⟨r, 0, none⟩) (Nat.le_refl r) (.slice P np cp)).setCell (p := ⟨r, 1, none⟩) (Nat.le_refl r) (.slice Q nq0 dq))
      have NE1 : r ≠ b := by have := HR.out; omega
      have NE2 : b ≠ r := by have := HR.out; omega
      clear hzr hbl
      go_wp2_with fail
      exact bodyPost_ret (v := .agg #[.slice P np cp, .slice Q nq0 dq]) (by simp [results, Try.results33, go_sem, q0, q1]) rfl ⟨⟨_, _, _, _, _, _, rfl, HV.out⟩, by rw [hr]; exact HF2.out⟩
end Go.Proofs.Ytdafldahmojpdaa.Stk
