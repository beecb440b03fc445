/- StkWant, StkKill, StkClose. -/
import Derived.Test.YtlappkflnlbfcaaGreatDoorPkStkPop
section
/- The draft's changes, walked: want, push. -/
namespace Go.Proofs.YtlappkflnlbfcaaGreatDoor.Stk
open Go.RowKit Row9
set_option maxRecDepth 100000
set_option maxHeartbeats 2000000
set_option linter.unusedVariables false
theorem fits_any (v x : Int) (w : World) : Calls Tryz.prog 147 #[.int .u8 v, .int .u8 x] w fun e w' => e = .returned (.bool (fit v x)) ∧ w' = w := by
  unfold fit
  cases h1 : (v == x) <;> cases h2 : (v == 0) <;> cases h3 : (x == 0)
  all_goals (
    go_enter Tryz.func147, Tryz.ntmps147
    go_wp2_with fail
    first
    | exact bodyPost_ret (v := .bool true) (by simp [results, Tryz.results147, go_sem]) rfl ⟨rfl, rfl⟩
    | exact bodyPost_ret (v := .bool false) (by simp [results, Tryz.results147, go_sem]) rfl ⟨rfl, rfl⟩)
/-- How want ends. -/
def WantYes (B D : Nat) (cv : Value) (l : List CtV) (vs : List Int) (w : World) (e : Ending) (w' : World) : Prop := ∃ vv', e = .returned (.int .i64 0) ∧ Dr w' B D vv' cv vs l ∧ But D w w'
def WantTold (B D : Nat) (cv : Value) (l : List CtV) (o : Option (List Int)) (w : World) (e : Ending) (w' : World) : Prop := match o with
  | none => e = .returned (.int .i64 5) ∧ But D w w'
  | some vs => WantYes B D cv l vs w e w'
theorem take_succ_rev (xs : List Int) (i : Nat) (h : i < xs.length) : (xs.take (i + 1)).reverse = xs.getD i 0 :: (xs.take i).reverse := by
  rw [List.take_add_one, List.getElem?_eq_getElem h, List.reverse_append, List.getD_eq_getElem?_getD, List.getElem?_eq_getElem h]
  rfl
theorem popV_len {o : Option Ctl} {vals vs : List Int} {v : Int} (h : popV o vals = some (vs, v)) : vs.length ≤ vals.length := by
  unfold popV at h
  split at h
  · cases h
  · split at h
    · simp only [Option.some.injEq, Prod.mk.injEq] at h
      rw [← h.1, List.length_dropLast]
      omega
    · split at h
      · simp only [Option.some.injEq, Prod.mk.injEq] at h
        rw [← h.1]
        exact Nat.le_refl _
      · cases h
theorem wantV_none {o : Option Ctl} {vals : List Int} {x : Int} {r : List Int} (h : popV o vals = none) : wantV o vals (x :: r) = none := by
  rw [wantV, h]
theorem wantV_some {o : Option Ctl} {vals vs : List Int} {x v : Int} {r : List Int} (h : popV o vals = some (vs, v)) : wantV o vals (x :: r) = if fit v x = true then wantV o vs r else none := by
  rw [wantV, h]
theorem want_any {B D : Nat} {vv cv x : Value} {vals xs : List Int} {l : List CtV} {w : World} (h : Dr w B D vv cv vals l) (hl : vals.length ≤ 1000000) (hx : ∀ W, But D w W → Row elB W x xs) (hxl : xs.length ≤ 1000000) :
    Calls Tryz.prog 114 #[.pointer (some ⟨D, 0, none⟩), x] w (WantTold B D cv l (wantV (l.map (·.1)).getLast? vals xs.reverse) w) := by
  have HH := Lib.hid h
  have HX := Lib.hid hx
  obtain ⟨o, ho⟩ : ∃ o, (l.map (·.1)).getLast? = o := ⟨_, rfl⟩
  rw [ho]
  have HO := Lib.hid ho
  obtain ⟨P, c, rfl, hc, hm⟩ := (hx w (But.refl _ _)).form
  obtain ⟨n, hn⟩ : ∃ n, xs.length = n := ⟨_, rfl⟩
  rw [hn] at hxl hc ⊢
  rw [hn] at HX
  have HN := Lib.hid hn
  have HL := Lib.hid hl
  have e0 : IntKind.i64.wrap ((n : Int) - 1) = (n : Int) - 1 := IntWalk.i64_in _ (by omega)
  obtain ⟨R, hR⟩ : ∃ R, wantV o vals xs.reverse = R := ⟨_, rfl⟩
  rw [hR]
  have HR := Lib.hid hR
  clear h hx ho hn hl hm hR
  go_enter Tryz.func114, Tryz.ntmps114
  go_wp2_with fail
  go_loopw [5] (fun k' wr => ∃ (j : Nat) (v : Int) (vs : List Int) (vj : Value), k' = .int .i64 v ∧ v + 1 = (j : Int) ∧ j ≤ n ∧ But D w wr ∧ Dr wr B D vj cv vs l ∧ R = wantV o vs (xs.take j).reverse ∧ vs.length ≤ 1000000) (fun k' _ => (intOf k' + 1).toNat)
  case atStart => exact ⟨n, (n : Int) - 1, vals, vv, rfl, by omega, Nat.le_refl _, But.refl _ _, HH.out, by rw [List.take_of_length_le (by rw [HN.out]; exact Nat.le_refl _)]; exact HR.out.symm, HL.out⟩
  case round =>
    obtain ⟨j, v, vs, vj, rfl, hj, hjn, hb, hd, hr, hvl⟩ := hrel
    have HB := Lib.hid hb
    have HDr := Lib.hid hd
    have HRR := Lib.hid hr
    clear hb hd hr
    rcases j with _ | i
    · have t1 : decide (0 ≤ v) = false := decide_eq_false (by omega)
      have HQ : Hid (R = some vs) := HRR.out
      clear hj hjn HRR
      go_wp2_with fail
      refine bodyPost_ret (v := .int .i64 0) (by simp [results, Tryz.results114, go_sem]) rfl ?_
      rw [HQ.out]
      exact ⟨vj, rfl, HDr.out, HB.out⟩
    · obtain rfl : v = (i : Int) := by omega
      have t1 : decide (0 ≤ (i : Int)) = true := decide_eq_true (by omega)
      obtain ⟨y, hy⟩ : ∃ y, xs.getD i 0 = y := ⟨_, rfl⟩
      have hq := HRR.out
      rw [take_succ_rev xs i (by rw [HN.out]; omega), hy] at hq
      have HY := Lib.hid hy
      have HC := Lib.hid (pop_any HDr.out hvl)
      rw [HO.out] at HC
      clear hj hy
      cases hpo : popV o vs with
      | none =>
        rw [wantV_none hpo] at hq
        have HQ := Lib.hid hq
        rw [hpo] at HC
        clear hq hpo
        go_wp2_with fail
        refine HC.out.mono ?_
        rintro e w1 ⟨rfl, hb1⟩
        have HB1 := Lib.hid (HB.out.trans hb1)
        clear hb1
        go_wp2_with fail
        refine bodyPost_ret (v := .int .i64 5) (by simp [results, Tryz.results114, go_sem]) rfl ?_
        rw [HQ.out]
        exact ⟨rfl, HB1.out⟩
      | some pr =>
        obtain ⟨vs1, u⟩ := pr
        rw [wantV_some hpo] at hq
        have HQ := Lib.hid hq
        have HVL := Lib.hid (Nat.le_trans (popV_len hpo) hvl)
        rw [hpo] at HC
        clear hq hpo
        go_wp2_with fail
        refine HC.out.mono ?_
        rintro e w1 ⟨v1, rfl, hd1, hb1⟩
        have HB1 := Lib.hid (HB.out.trans hb1)
        have HD1 := Lib.hid hd1
        clear hb1 hd1
        obtain ⟨gx, ox, rfl, hgx, hcx, hr1, hr2⟩ := byte_at (HX.out w1 HB1.out) (j := i) (by rw [HN.out]; omega)
        rw [HY.out] at hcx
        have i1 : (0 : Int) ≤ (i : Int) := by omega
        have i2 : (i : Int) < (n : Int) := by omega
        have e3 : IntKind.i64.wrap ((i : Int) - 1) = (i : Int) - 1 := IntWalk.i64_in _ (by omega)
        have HF := Lib.hid (fits_any u y w1)
        clear hr1 hr2 hgx
        go_wp2_with fail
        refine HF.out.mono ?_
        rintro e w2 ⟨rfl, rfl⟩
        cases hf : fit u y with
        | false =>
          have HQ2 : Hid (R = none) := by
            show _ = _
            rw [HQ.out, hf]
            rfl
          clear hf HF
          go_wp2_with fail
          refine bodyPost_ret (v := .int .i64 5) (by simp [results, Tryz.results114, go_sem]) rfl ?_
          rw [HQ2.out]
          exact ⟨rfl, HB1.out⟩
        | true =>
          have HQ2 : Hid (R = wantV o vs1 (xs.take i).reverse) := by
            show _ = _
            rw [HQ.out, hf]
            rfl
          clear hf HF
          go_wp2_with fail
          go_roundw
          case rel => exact ⟨i, (i : Int) - 1, vs1, v1, by go_num, by omega, by omega, HB1.out, HD1.out, HQ2.out, HVL.out⟩
          case measure => first | (simp [intOf]; done) | (simp [intOf]; omega)
/-- What a change leaves in the draft's block. -/
def Left (w : World) (D : Nat) (s : Stk) : Prop := ∃ a c pv l, w.heap[D]? = some (drCells a c pv) ∧ Row elB w a s.vals ∧ Row elP w c l ∧ l.map (·.1) = s.cs
theorem Dr.left {w : World} {B D : Nat} {vv cv : Value} {vals : List Int} {l : List CtV} (h : Dr w B D vv cv vals l) : Left w D ⟨vals, l.map (·.1)⟩ := ⟨_, _, _, l, h.blk, h.rowB, h.rowP, rfl⟩
/-- A row of the call's own that a change of another row's block leaves. -/
theorem Dr.grow {w w' : World} {B D : Nat} {vv cv vv' : Value} {vals vals' : List Int} {l : List CtV} (h : Dr w B D vv cv vals l) (hO : Own elB w' B vv' vals') (hR : ∀ x ∈ vals', 0 ≤ x ∧ x < 256) (hc : Chg w w' vv.ownBlock) : Left (w'.setCell ⟨D, 0, none⟩ vv') D ⟨vals', l.map (·.1)⟩ ∧ w'.cell? ⟨D, 0, none⟩ = some vv ∧ w'.frozen? ⟨D, 0, none⟩ = false := by
  have hD : w'.heap[D]? = some (drCells vv cv (innP cv)) := by
    rw [hc D h.lt (fun e => own_notD h.vO h.blk (by decide) e.symm rfl)]
    exact h.blk
  have hcO : Own elP w' B cv l := own_stay h.cO fun k hk => hc k (World.ownsRow.lt h.cO k hk).2 (own_ne h.cO h.vO (by decide) hk)
  refine ⟨⟨vv', cv, innP cv, l, by rw [drCells, set_heap hD]; rfl, Own.row (own_setD hO hD (by decide) _ _) hR, Own.row (own_setD hcO hD (by decide) _ _) fun p hp => ?_, rfl⟩, (cells_at hD 0).1, (cells_at hD 0).2⟩
  obtain ⟨e1, e2, e3, e4, e5, e6⟩ := h.ok p hp
  have e1' : Own elB w' B p.2 p.1.fin := own_stay e1 fun k hk => hc k (World.ownsRow.lt e1 k hk).2 (e2 k hk)
  exact ⟨Own.row (own_setD e1' hD (by decide) _ _) e3, e4, e5⟩
/-- How push, open, kill end: by an error, or by a stack. -/
def MadeTold (D : Nat) (e0 : Int) (s : Stk) (e : Ending) (w' : World) : Prop := e = .returned (.int .i64 e0) ∧ (e0 = 0 → Left w' D s)
def chosen {α : Type} (b : Bool) (x y : α) : α := match b with
  | true => x
  | false => y
theorem push_any {B D : Nat} {vv cv x : Value} {vals xs : List Int} {l : List CtV} {w : World} (h : Dr w B D vv cv vals l) (hx : Row elB w x xs) (hl : vals.length + xs.length ≤ 1000000) (hBw : B ≤ w.heap.size) :
    Calls Tryz.prog 168 #[.pointer (some ⟨D, 0, none⟩), x] w fun e w' => MadeTold D (chosen (xs.any noT) 1 0) ⟨vals ++ xs, l.map (·.1)⟩ e w' ∧ Below B w w' := by
  obtain ⟨c0, c1, c2, f0, f1, f2⟩ := dr_cells h.blk
  have HH := Lib.hid h
  have HX := Lib.hid hx
  have HL := Lib.hid hl
  have HC := Lib.hid (con_any hx)
  obtain ⟨P, c, rfl, hc, hm⟩ := hx.form
  cases hq : xs.any noT with
  | true =>
    rw [hq] at HC
    clear h hx hl hc hm hq
    go_enter Tryz.func168, Tryz.ntmps168
    go_wp2_with fail
    refine HC.out.mono ?_
    rintro e w1 ⟨rfl, rfl⟩
    go_wp2_with fail
    exact bodyPost_ret (v := .int .i64 1) (by simp [results, Tryz.results168, go_sem]) rfl ⟨⟨rfl, fun h => absurd h (by decide)⟩, Below.refl _ _⟩
  | false =>
    rw [hq] at HC
    obtain ⟨Pv, cv_, hv⟩ := h.vO.form
    obtain ⟨n, hn⟩ : ∃ n, xs.length = n := ⟨_, rfl⟩
    obtain ⟨m, hm2⟩ : ∃ m, vals.length = m := ⟨_, rfl⟩
    rw [hm2] at hv
    rw [hn] at HX HC ⊢
    subst hv
    clear h hx hl hc hm hq hn hm2
    go_enter Tryz.func168, Tryz.ntmps168
    go_wp2_with fail
    refine HC.out.mono ?_
    rintro e w1 ⟨rfl, rfl⟩
    go_wp2_with (at_builtin; refine stop_ ?_)
    refine Lib.hid ?_
    refine wp_rowsG elB 25 Tryz.underlying25 _ rfl (.tmp 12) (.tmp 13) rfl B _ _ vals xs rfl HH.out.vO rfl HX.out HL.out (by decide) hBw ?_
    intro v1 w2 ho1 hb1 hch
    obtain ⟨HL2, hg0, hf0⟩ := HH.out.grow ho1 (by
      intro y hy
      rcases List.mem_append.1 hy with hy | hy
      · exact HH.out.vR y hy
      · exact HX.out.2 y hy) hch
    have HLL := Lib.hid HL2
    have HB := Lib.hid hb1
    obtain ⟨P1, c1_, hv1⟩ := ho1.form
    obtain ⟨n1, hn1⟩ : ∃ n, (vals ++ xs).length = n := ⟨_, rfl⟩
    rw [hn1] at hv1
    subst hv1
    clear HL2 ho1 hb1 hch hn1
    go_wp2_with fail
    refine bodyPost_ret (v := .int .i64 0) (by simp [results, Tryz.results168, go_sem]) rfl ⟨⟨rfl, fun _ => HLL.out⟩, HB.out.setCell HH.out.hD _⟩
end Go.Proofs.YtlappkflnlbfcaaGreatDoor.Stk
end

section
/- The draft's changes, walked: kill. -/
namespace Go.Proofs.YtlappkflnlbfcaaGreatDoor.Stk
open Go.RowKit Row9
set_option maxRecDepth 100000
set_option maxHeartbeats 2000000
set_option linter.unusedVariables false
theorem below_drew1 (w : World) : Below w.heap.size w w.drew := ⟨rfl, rfl, rfl, Nat.le_refl _, fun _ _ => rfl⟩
theorem own_set {w : World} {B g e s n n0 c i : Nat} {xs : List Value} {v : Value} (h : w.ownsRow B e s (.slice (some ⟨g, 0, none⟩) n0 c) n xs) (hi : i < n * s) : (w.setCell ⟨g, i, none⟩ v).ownsRow B e s (.slice (some ⟨g, 0, none⟩) n0 c) n (xs.set i v) := by
  obtain ⟨h1, ⟨h2, h3⟩ | ⟨g', cap, cur, hv, hB, hc, hle, hm, hsz, ht⟩⟩ := h
  · cases h2
  · have hg : g = g' := by
      injection hv with e1 _ _
      simpa using e1
    subst hg
    refine ⟨by rw [List.length_set]; exact h1, .inr ⟨g, cap, cur.setIfInBounds i v, hv, hB, heap_setCell_same w g i cur e v hc, hle, hm, by rw [Array.size_setIfInBounds]; exact hsz, ?_⟩⟩
    rw [Array.toList_setIfInBounds, List.take_set, ht]
def deadC (p : CtV) : CtV := ({ p.1 with dead := true }, p.2)
theorem flat_dead (q : List CtV) (p : CtV) : ((q ++ [p]).flatMap elP.enc).set (q.length * 4 + 3) (.bool true) = (q ++ [deadC p]).flatMap elP.enc := by
  have hl : (q.flatMap elP.enc).length = q.length * 4 := Row9.flat_len elP q
  rw [List.flatMap_append, List.flatMap_append, List.set_append_right _ _ (by omega), hl, show q.length * 4 + 3 - q.length * 4 = 3 from by omega]
  rfl
theorem own_dead {w : World} {B g n c m : Nat} {q : List CtV} {p : CtV} (h : Own elP w B (.slice (some ⟨g, 0, none⟩) n c) (q ++ [p])) (hm : q.length = m) : Own elP (w.setCell ⟨g, m * 4 + 3, none⟩ (.bool true)) B (.slice (some ⟨g, 0, none⟩) n c) (q ++ [deadC p]) := by
  subst hm
  have := own_set (v := .bool true) (i := q.length * 4 + 3) h (by rw [List.length_append, List.length_singleton]; show _ < (q.length + 1) * 4; omega)
  rw [flat_dead] at this
  have e : (q ++ [deadC p]).length = (q ++ [p]).length := by rw [List.length_append, List.length_append]; rfl
  unfold Row9.Own
  rw [e]
  exact this
theorem Dr.killed {w : World} {B D g n c m : Nat} {vv vv' : Value} {vals vals' : List Int} {q : List CtV} {p : CtV} (h : Dr w B D vv (.slice (some ⟨g, 0, none⟩) n c) vals (q ++ [p])) (hO : Own elB w B vv' vals') (hR : ∀ x ∈ vals', 0 ≤ x ∧ x < 256) (hm : q.length = m) :
    Left ((w.setCell ⟨D, 0, none⟩ vv').setCell ⟨g, m * 4 + 3, none⟩ (.bool true)) D ⟨vals', q.map (·.1) ++ [{ p.1 with dead := true }]⟩ := by
  have hg : g ≠ D := fun e => own_notD h.cO h.blk (by decide) (k := g) rfl e
  have key : ∀ {s n' : Nat} {v : Value} {xs : List Value}, w.ownsRow B 5 s v n' xs → ((w.setCell ⟨D, 0, none⟩ vv').setCell ⟨g, m * 4 + 3, none⟩ (.bool true)).ownsRow B 5 s v n' xs := fun hh => by
    have h1 := own_setD hh h.blk (by decide) 0 vv'
    have h2 := own_setD h.cO h.blk (by decide) 0 vv'
    exact own_stay h1 fun k hk => chg_set _ g (m * 4 + 3) _ k (World.ownsRow.lt h1 k hk).2 (own_ne h1 h2 (by decide) hk)
  refine ⟨vv', .slice (some ⟨g, 0, none⟩) n c, innP (.slice (some ⟨g, 0, none⟩) n c), q ++ [deadC p], ?_, Own.row (key hO) hR, Own.row (own_dead (own_setD h.cO h.blk (by decide) 0 vv') hm) ?_, by simp [deadC]⟩
  · rw [chg_set _ g (m * 4 + 3) _ D (by rw [set_size]; exact h.lt) (by intro e; exact hg (Option.some.inj e).symm), drCells, set_heap h.blk]
    rfl
  · intro r hr
    rcases List.mem_append.1 hr with hr | hr
    · obtain ⟨e1, e2, e3, e4, e5, e6⟩ := h.ok r (List.mem_append_left _ hr)
      exact ⟨Own.row (key e1) e3, e4, e5⟩
    · obtain rfl := List.mem_singleton.1 hr
      obtain ⟨e1, e2, e3, e4, e5, e6⟩ := h.ok p (by simp)
      exact ⟨Own.row (key e1) e3, e4, e5⟩
theorem kill_none {B D : Nat} {vv cv : Value} {vals : List Int} {w : World} (h : Dr w B D vv cv vals []) (s : Stk) :
    Calls Tryz.prog 166 #[.pointer (some ⟨D, 0, none⟩)] w fun e w' => MadeTold D 5 s e w' ∧ Below B w w' := by
  obtain ⟨c0, c1, c2, f0, f1, f2⟩ := dr_cells h.blk
  rw [h.outer rfl] at c2
  clear h
  go_enter Tryz.func166, Tryz.ntmps166
  go_wp2_with fail
  exact bodyPost_ret (v := .int .i64 5) (by simp [results, Tryz.results166, go_sem]) rfl ⟨⟨rfl, fun h => absurd h (by decide)⟩, Below.refl _ _⟩
theorem kill_some {B D k : Nat} {vv cv : Value} {vals : List Int} {q : List CtV} {p : CtV} {w : World} (h : Dr w B D vv cv vals (q ++ [p])) (hk : p.1.ht = (k : Int)) (hkl : k ≤ vals.length) (hBw : B ≤ w.heap.size) :
    Calls Tryz.prog 166 #[.pointer (some ⟨D, 0, none⟩)] w fun e w' => MadeTold D 0 ⟨vals.take k, q.map (·.1) ++ [{ p.1 with dead := true }]⟩ e w' ∧ Below B w w' := by
  have HB := Lib.hid (below_drew1 w)
  have HH := Lib.hid (h.keep HB.out)
  have HT : Hid (∀ A n c, vv = .slice A n c → Own elB w.drew B (.slice A k c) (vals.take k)) := fun A n c e => by
    have hO := HH.out.vO
    rw [e] at hO
    exact Own.take hO k hkl
  obtain ⟨b0, b1, b2, d0, d1, d2⟩ := dr_cells h.blk
  obtain ⟨c0, c1, c2, f0, f1, f2⟩ := dr_cells HH.out.blk
  obtain ⟨g, cc_, qq, m, rfl, x1, x2, x3, x4, e2, hg, hgD, k0, k1, k2, k3, kf, hE⟩ := HH.out.inner (p := p) (by simp)
  have hqm : q.length = m := by simpa using x2
  rw [e2] at c2 b2
  rw [hk] at k2
  have hf3 := kf (qq + 3)
  have HK : Hid (∀ vv', Own elB w.drew B vv' (vals.take k) → Left ((w.drew.setCell ⟨D, 0, none⟩ vv').setCell ⟨g, qq + 3, none⟩ (.bool true)) D ⟨vals.take k, q.map (·.1) ++ [{ p.1 with dead := true }]⟩) := fun vv' hO => by
    rw [x4]
    exact HH.out.killed hO (fun x hx => h.vR x (List.mem_of_mem_take hx)) hqm
  obtain ⟨n, hn⟩ : ∃ n, (q ++ [p]).length = n := ⟨_, rfl⟩
  rw [hn] at c1 b1 HH
  have hD := h.hD
  have HDg : Hid (B ≤ g) := (World.ownsRow.lt HH.out.cO g rfl).1
  obtain ⟨z1, ⟨hv, hl⟩ | ⟨gv, cap, cur, hv, hB, hc, hle, hm, hsz, ht⟩⟩ := id h.vO
  · have hk0 : k = 0 := by omega
    subst hk0
    subst hv
    have HT2 := Lib.hid (HK.out _ (HT.out _ _ _ rfl))
    clear z1 h hkl hl hk x1 x2 x3 x4 e2 hE kf HT HK k0 k1 hqm hn
    go_enter Tryz.func166, Tryz.ntmps166
    go_wp2_with fail
    go_still_tail 14, (by kernel_rfl)
    change wpList _ _ _ _ _ w.drew
    have hgD' : (⟨g, qq + 3, none⟩ : Addr) ≠ ⟨D, 0, none⟩ := fun e => hgD (congrArg Addr.block e)
    clear b0 b1 b2 d0 d1 d2
    generalize w.drew = w1 at *
    go_wp2_with fail
    exact bodyPost_ret (v := .int .i64 0) (by simp [results, Tryz.results166, go_sem]) rfl ⟨⟨rfl, fun _ => HT2.out⟩, ((HB.out.mono hBw).setCell (p := ⟨D, 0, none⟩) hD _).setCell (p := ⟨g, qq + 3, none⟩) HDg.out _⟩
  · subst hv
    have i1 : (0 : Int) ≤ (k : Int) := by omega
    have i2 : (k : Int) ≤ (cap : Int) := by omega
    have i2' : k ≤ cap := by omega
    have HT2 := Lib.hid (HK.out _ (HT.out _ _ _ rfl))
    obtain ⟨nv, hnv⟩ : ∃ nv, vals.length = nv := ⟨_, rfl⟩
    rw [hnv] at c0 b0 HH
    clear z1 h hkl hk x1 x2 x3 x4 e2 hE kf HT HK k0 k1 hqm hn hB hc hle hm hsz ht hnv
    go_enter Tryz.func166, Tryz.ntmps166
    go_wp2_with fail
    go_still_tail 14, (by kernel_rfl)
    change wpList _ _ _ _ _ w.drew
    have hgD' : (⟨g, qq + 3, none⟩ : Addr) ≠ ⟨D, 0, none⟩ := fun e => hgD (congrArg Addr.block e)
    clear b0 b1 b2 d0 d1 d2
    generalize w.drew = w1 at *
    go_wp2_with fail
    exact bodyPost_ret (v := .int .i64 0) (by simp [results, Tryz.results166, go_sem]) rfl ⟨⟨rfl, fun _ => HT2.out⟩, ((HB.out.mono hBw).setCell (p := ⟨D, 0, none⟩) hD _).setCell (p := ⟨g, qq + 3, none⟩) HDg.out _⟩
end Go.Proofs.YtlappkflnlbfcaaGreatDoor.Stk
end

section
/- The draft's changes, walked: close. -/
namespace Go.Proofs.YtlappkflnlbfcaaGreatDoor.Stk
open Go.RowKit Row9
set_option maxRecDepth 100000
set_option maxHeartbeats 2000000
set_option linter.unusedVariables false
theorem clip_any {A : Option Addr} {n c : Nat} {w : World} (hc : n ≤ c) (hA : A = none → c = 0) : Calls Tryz.prog 115 #[.slice A n c] w fun e w' => e = .returned (.slice A n n) ∧ w' = w := by
  have i1 : (0 : Int) ≤ (n : Int) := by omega
  have i2 : (n : Int) ≤ (c : Int) := by omega
  rcases A with _ | ⟨g, o, s⟩
  · obtain rfl : c = 0 := hA rfl
    obtain rfl : n = 0 := by omega
    go_enter Tryz.func115, Tryz.ntmps115
    go_wp2_with fail
    exact bodyPost_ret (v := .slice none 0 0) (by simp [results, Tryz.results115, go_sem]) rfl ⟨rfl, rfl⟩
  · clear hA
    go_enter Tryz.func115, Tryz.ntmps115
    go_wp2_with fail
    exact bodyPost_ret (v := .slice (some ⟨g, o, s⟩) n n) (by simp [results, Tryz.results115, go_sem]) rfl ⟨rfl, rfl⟩
/-- The rows of a draft. -/
structure Rw (w : World) (B : Nat) (vv cv : Value) (vals : List Int) (l : List CtV) : Prop where
  vO : Own elB w B vv vals
  vR : ∀ x ∈ vals, 0 ≤ x ∧ x < 256
  cO : Own elP w B cv l
  ok : ∀ p ∈ l, EndOk w B vv p
theorem Dr.rw {w : World} {B D : Nat} {vv cv : Value} {vals : List Int} {l : List CtV} (h : Dr w B D vv cv vals l) : Rw w B vv cv vals l := ⟨h.vO, h.vR, h.cO, h.ok⟩
theorem Rw.keep {w w' : World} {B : Nat} {vv cv : Value} {vals : List Int} {l : List CtV} (h : Rw w B vv cv vals l) (hb : Below w.heap.size w w') : Rw w' B vv cv vals l :=
  ⟨own_keep h.vO hb, h.vR, own_keep h.cO hb, fun p hp => (h.ok p hp).keep hb⟩
theorem own_but {w w' : World} {B D e s n : Nat} {v vv cv pv : Value} {xs : List Value} (h : w.ownsRow B e s v n xs) (hd : w.heap[D]? = some (drCells vv cv pv)) (hne : e ≠ 167) (hb : But D w w') : w'.ownsRow B e s v n xs :=
  own_stay h fun k hk => hb.block k (World.ownsRow.lt h k hk).2 (own_notD h hd hne hk)
theorem Rw.but {w w' : World} {B D : Nat} {vv cv v1 v2 v3 : Value} {vals : List Int} {l : List CtV} (h : Rw w B vv cv vals l) (hd : w.heap[D]? = some (drCells v1 v2 v3)) (hb : But D w w') : Rw w' B vv cv vals l :=
  ⟨own_but h.vO hd (by decide) hb, h.vR, own_but h.cO hd (by decide) hb, fun p hp => ⟨own_but (h.ok p hp).1 hd (by decide) hb, (h.ok p hp).2⟩⟩
/-- A block of what is open, no part of the row: turned. -/
theorem Rw.beside {w w' : World} {B R : Nat} {vv cv : Value} {vals : List Int} {l : List CtV} {cur : Array Value} (h : Rw w B vv cv vals l) (hr : w.heap[R]? = some (.cells cur 72 (0, 0))) (hcv : cv.ownBlock ≠ some R) (hb : Chg w w' (some R)) : Rw w' B vv cv vals l := by
  have key : ∀ {s n : Nat} {v : Value} {xs : List Value}, w.ownsRow B 5 s v n xs → w'.ownsRow B 5 s v n xs := fun hh => own_stay hh fun k hk => hb k (World.ownsRow.lt hh k hk).2 (by
    intro e
    obtain ⟨cur', h1⟩ := own_type hh hk
    rw [Option.some.inj e, hr] at h1
    simp at h1)
  exact ⟨key h.vO, h.vR, own_stay h.cO fun k hk => hb k (World.ownsRow.lt h.cO k hk).2 (by intro e; exact hcv (hk.trans e)), fun p hp => ⟨key (h.ok p hp).1, (h.ok p hp).2⟩⟩
theorem Rw.rowP {w : World} {B : Nat} {vv cv : Value} {vals : List Int} {l : List CtV} (h : Rw w B vv cv vals l) : Row elP w cv l := h.cO.row fun p hp => ⟨(h.ok p hp).1.row (h.ok p hp).2.2.1, (h.ok p hp).2.2.2.1, (h.ok p hp).2.2.2.2.1⟩
/-- A row, cut short. -/
theorem row_take {α : Type} {T : El α} {w : World} {A : Option Addr} {n c : Nat} {l : List α} (h : Row T w (.slice A n c) l) (k c' : Nat) (hk : k ≤ l.length) (hc : k ≤ c') (hm : c' ≤ 9223372036854775807) : Row T w (.slice A k c') (l.take k) := by
  obtain ⟨⟨A', c'', h1, h2, h3, h4⟩, h5⟩ := h
  injection h1 with e1 e2 e3
  subst e1
  have hl : (l.take k).length = k := by rw [List.length_take]; omega
  refine ⟨⟨A, c', by rw [hl], by omega, hm, fun h0 => ?_⟩, fun p hp => h5 p (List.mem_of_mem_take hp)⟩
  obtain ⟨g, off, e, hg, hC⟩ := h4 (by intro e; rw [e] at h0; simp at h0)
  refine ⟨g, off, e, hg, fun j p hp => hC j p ?_⟩
  rw [List.getElem?_take] at hp
  split at hp
  · exact hp
  · cases hp
def zC : Value := .agg #[.int .i64 0, .slice none 0 0, .int .i64 0, .bool false]
theorem chg4 (w : World) (r : Nat) (a b c d : Value) : Chg w ((((w.setCell ⟨r, 0, none⟩ a).setCell ⟨r, 1, none⟩ b).setCell ⟨r, 2, none⟩ c).setCell ⟨r, 3, none⟩ d) (some r) := fun k hk hne => by
  have h : k ≠ r := fun e => hne (congrArg some e)
  rw [Below.heap_setCell _ _ _ _ h, Below.heap_setCell _ _ _ _ h, Below.heap_setCell _ _ _ _ h, Below.heap_setCell _ _ _ _ h]
/-- How close ends. -/
def ClosedNo (e : Ending) : Prop := e = .returned (.tuple #[zC, .int .i64 5])
def ClosedYes (B D : Nat) (p : CtV) (s : Stk) (e : Ending) (w' : World) : Prop := e = .returned (.tuple #[.agg (cc p).toArray, .int .i64 0]) ∧ ∀ W, (∀ k, B ≤ k → k < w'.heap.size → W.heap[k]? = w'.heap[k]?) → Left W D s ∧ Row elB W p.2 p.1.fin
theorem Rw.high {w W : World} {B : Nat} {vv cv : Value} {vals : List Int} {l : List CtV} (h : Rw w B vv cv vals l) (hW : ∀ k, B ≤ k → k < w.heap.size → W.heap[k]? = w.heap[k]?) : Rw W B vv cv vals l :=
  ⟨own_stay h.vO fun k hk => hW k (World.ownsRow.lt h.vO k hk).1 (World.ownsRow.lt h.vO k hk).2, h.vR, own_stay h.cO fun k hk => hW k (World.ownsRow.lt h.cO k hk).1 (World.ownsRow.lt h.cO k hk).2, fun p hp => ⟨own_stay (h.ok p hp).1 fun k hk => hW k (World.ownsRow.lt (h.ok p hp).1 k hk).1 (World.ownsRow.lt (h.ok p hp).1 k hk).2, (h.ok p hp).2⟩⟩
theorem close_none {B D : Nat} {vv cv : Value} {vals : List Int} {w : World} (h : Dr w B D vv cv vals []) (hBw : B ≤ w.heap.size) :
    Calls Tryz.prog 85 #[.pointer (some ⟨D, 0, none⟩)] w fun e w' => ClosedNo e ∧ Below B w w' := by
  have HB := Lib.hid ((Below.refl w.heap.size w).alloc (Nat.le_refl _) (.cells #[.int .i64 0, .slice none 0 0, .int .i64 0, .bool false] 72))
  obtain ⟨c0, c1, c2, f0, f1, f2⟩ := dr_cells (h.keep HB.out).blk
  rw [h.outer rfl] at c2
  clear h
  go_enter Tryz.func85, Tryz.ntmps85
  go_wp2_with fail
  refine bodyPost_ret (v := .tuple #[zC, .int .i64 5]) (by simp [results, Tryz.results85, go_sem, zC]) rfl ⟨rfl, ?_⟩
  repeat (first | with_reducible exact (HB.out.mono hBw) | refine Below.setCell ?_ (by first | (simp; done) | (simp; omega)) _)
def CloseTold (B D : Nat) (p : CtV) (q : List CtV) (R : Option (List Int)) (w : World) (e : Ending) (w' : World) : Prop :=
  ((∀ vs, R = some vs → (vs.length : Int) ≠ p.1.ht) → ClosedNo e) ∧ (∀ vs, R = some vs → (vs.length : Int) = p.1.ht → ClosedYes B D p ⟨vs, q.map (·.1)⟩ e w') ∧ Below B w w'
theorem close_some {B D : Nat} {vv cv : Value} {vals : List Int} {q : List CtV} {p : CtV} {w : World} (h : Dr w B D vv cv vals (q ++ [p])) (hl : vals.length ≤ 1000000) (hfl : p.1.fin.length ≤ 1000000) (hql : q.length ≤ 1000000) (hBw : B ≤ w.heap.size) (R : Option (List Int)) (hR : wantV (some p.1) vals p.1.fin.reverse = R) :
    Calls Tryz.prog 85 #[.pointer (some ⟨D, 0, none⟩)] w (CloseTold B D p q R w) := by
  have HB := Lib.hid ((Below.refl w.heap.size w).alloc (Nat.le_refl _) (.cells #[.int .i64 0, .slice none 0 0, .int .i64 0, .bool false] 72))
  have HZ := Lib.hid (heap_new w (.cells #[.int .i64 0, .slice none 0 0, .int .i64 0, .bool false] 72))
  have HS := Lib.hid (size_new w (.cells #[.int .i64 0, .slice none 0 0, .int .i64 0, .bool false] 72))
  have HH := Lib.hid (h.keep HB.out)
  have HD := Lib.hid h.lt
  obtain ⟨c0, c1, c2, f0, f1, f2⟩ := dr_cells HH.out.blk
  obtain ⟨g, cc_, qq, m, rfl, x1, x2, x3, x4, e2, hg, hgD, k0, k1, k2, k3, kf, hE⟩ := HH.out.inner (p := p) (by simp)
  have HG : Hid (g < w.heap.size) := (World.ownsRow.lt h.cO g rfl).2
  rw [e2] at c2
  have hX : ∀ W, But D (w.alloc (.cells #[.int .i64 0, .slice none 0 0, .int .i64 0, .bool false] 72)) W → Row elB W p.2 p.1.fin := fun W hW => Own.row (own_but hE.1 HH.out.blk (by decide) hW) hE.2.2.1
  have HC := Lib.hid (want_any HH.out hl hX hfl)
  rw [show ((q ++ [p]).map (·.1)).getLast? = some p.1 by simp, hR] at HC
  obtain ⟨Pe, ce, hpe⟩ := hE.1.form
  obtain ⟨ne, hne⟩ : ∃ ne, p.1.fin.length = ne := ⟨_, rfl⟩
  rw [hne] at hpe
  have HX := Lib.hid hX
  have hqm : q.length = m := by simpa using x2
  have HQM := Lib.hid hqm
  obtain ⟨n, hn⟩ : ∃ n, (q ++ [p]).length = n := ⟨_, rfl⟩
  have HNM : Hid (n = m + 1) := by show _ = _; rw [← hn]; exact x2
  have HML : Hid (m ≤ 1000000) := by show _ ≤ _; omega
  have HCL : Hid (n ≤ cc_) := by show _ ≤ _; rw [← hn]; exact x1
  rw [hn] at c1 HH HC e2
  rw [hpe] at k1 HC
  have HPE := Lib.hid hpe
  have HE2 := Lib.hid e2
  have hD := h.hD
  clear h hl hfl hql hR hX x1 x2 x3 x4 kf hE hne hpe hqm hn e2
  go_enter Tryz.func85, Tryz.ntmps85
  go_wp2_with fail
  generalize hW0 : w.alloc (.cells #[.int .i64 0, .slice none 0 0, .int .i64 0, .bool false] 72) = W0 at *
  have HR : Hid (w.heap.size < W0.heap.size) := by show _ < _; rw [HS.out]; omega
  obtain ⟨r, hr⟩ : ∃ r, w.heap.size = r := ⟨_, rfl⟩
  rw [hr] at HZ HD HG HR hBw ⊢
  have HBB : Hid (Below B w W0) := HB.out.mono (by rw [hr]; exact hBw)
  clear hW0 c0 c1 c2 f0 f1 f2 k0 k1 k2 k3 hg HB HS hr
  refine HC.out.mono ?_
  rintro e w1 ht
  cases R with
  | none =>
    obtain ⟨rfl, hb1⟩ := ht
    have HB1 := Lib.hid (HBB.out.trans (hb1.below hD (by have := HR.out; have := HD.out; omega)))
    have hz1 : w1.heap[r]? = some (.cells #[.int .i64 0, .slice none 0 0, .int .i64 0, .bool false] 72 (0, 0)) := (hb1.block r HR.out (by have := HD.out; omega)).trans HZ.out
    have q0 := cells_at hz1 0
    have q1 := cells_at hz1 1
    have q2 := cells_at hz1 2
    have q3 := cells_at hz1 3
    obtain ⟨q0, p0⟩ := q0
    obtain ⟨q1, p1⟩ := q1
    obtain ⟨q2, p2⟩ := q2
    obtain ⟨q3, p3⟩ := q3
    simp only [List.getElem?_toArray, List.getElem?_cons_zero, List.getElem?_cons_succ] at q0 q1 q2 q3
    clear hb1 HC hz1
    go_wp2_with fail
    refine bodyPost_ret (v := .tuple #[zC, .int .i64 5]) (by simp [results, Tryz.results85, go_sem, zC, q0, q1, q2, q3]) rfl ⟨fun _ => rfl, (fun vs h => by cases h), ?_⟩
    repeat (first | with_reducible exact HB1.out | refine Below.setCell ?_ (by exact hBw) _)
  | some vs =>
    obtain ⟨vv1, rfl, hd1, hb1⟩ := ht
    have HB1 := Lib.hid (HBB.out.trans (hb1.below hD (by have := HR.out; have := HD.out; omega)))
    have HZ1 : Hid (w1.heap[r]? = some (.cells #[.int .i64 0, .slice none 0 0, .int .i64 0, .bool false] 72 (0, 0))) := (hb1.block r HR.out (by have := HD.out; omega)).trans HZ.out
    have HS1 : Hid (r < w1.heap.size) := lt_of_heap HZ1.out
    have HH1 := Lib.hid hd1
    obtain ⟨b0, b1, b2, d0, d1, d2⟩ := dr_cells hd1.blk
    obtain ⟨g', c', qq', m', y1, y2, y3, y4, y5, y6, y7, y8, k0, k1, k2, k3, kf, hE⟩ := hd1.inner (p := p) (by simp)
    injection y1 with z1 z2 z3
    simp only [Option.some.injEq, Addr.mk.injEq, and_true] at z1
    subst z1
    rw [HE2.out] at y6 b2
    simp only [Value.pointer.injEq, Option.some.injEq, Addr.mk.injEq, and_true, true_and] at y6
    subst y6
    rw [HPE.out] at k1
    obtain ⟨Pv, cvv, hvv⟩ := hd1.vO.form
    obtain ⟨nv, hnv⟩ : ∃ nv, vs.length = nv := ⟨_, rfl⟩
    rw [hnv] at hvv
    subst hvv
    obtain ⟨ht, hht⟩ : ∃ ht, p.1.ht = ht := ⟨_, rfl⟩
    rw [hht] at k2
    have HHT := Lib.hid hht
    have HNV := Lib.hid hnv
    by_cases hne : (nv : Int) = ht
    · have t5 : ((nv : Int) != ht) = false := by simpa using hne
      have HNE := Lib.hid hne
      have HE0 := Lib.hid hE
      clear hne hb1 HC hd1 y2 y3 y4 y5 y8 z2 z3 kf hE hht hnv
      go_wp2_with fail
      go_quiet (fail)
      have HBq := Lib.hid (drewB w1 nq (Nat.le_refl w1.heap.size))
      have HH2 := Lib.hid (HH1.out.keep HBq.out)
      have HB2 := Lib.hid (HB1.out.trans (HBq.out.mono (by have := HS1.out; omega)))
      have HZ2 := Lib.hid ((HBq.out.block r HS1.out).trans HZ1.out)
      have HE2' := Lib.hid (HE0.out.keep HBq.out)
      have k0 := (HBq.out.cell (p := ⟨g, qq, none⟩) y7).trans k0
      have k1 := (HBq.out.cell (p := ⟨g, qq + 1, none⟩) y7).trans k1
      have k2 := (HBq.out.cell (p := ⟨g, qq + 2, none⟩) y7).trans k2
      have k3 := (HBq.out.cell (p := ⟨g, qq + 3, none⟩) y7).trans k3
      obtain ⟨b0, b1, b2, d0, d1, d2⟩ := dr_cells HH2.out.blk
      rw [HE2.out] at b2
      generalize w1.drewN nq = w2 at *
      have HS2 : Hid (r < w2.heap.size) := lt_of_heap HZ2.out
      have HT5 : Hid ((nv : Int) = p.1.ht) := by show _ = _; rw [HHT.out]; exact HNE.out
      clear b0 b1 b2 d0 d1 d2
      obtain ⟨b0, b1, b2, d0, d1, d2⟩ := dr_cells HH2.out.blk
      rw [HE2.out] at b2
      go_wp2_with fail
      obtain ⟨O, hO⟩ : ∃ O, Obj.cells #[.int .i64 p.1.op, .slice Pe ne ce, .int .i64 ht, .bool p.1.dead] 72 (0, 0) = O := ⟨_, rfl⟩
      have HB3 := Lib.hid ((Below.refl w2.heap.size w2).alloc (Nat.le_refl _) O)
      have HX3 := Lib.hid (heap_new w2 O)
      have HS3 := Lib.hid (size_new w2 O)
      rw [hO]
      generalize w2.alloc O = w3 at *
      obtain ⟨x, hx⟩ : ∃ x, w2.heap.size = x := ⟨_, rfl⟩
      have HB4 := Lib.hid (HB3.out.trans ((below_drew1 w3).mono (by rw [HS3.out]; omega)))
      have HX4 : Hid (w3.drew.heap[x]? = some O) := by show _ = _; rw [← hx]; exact HX3.out
      have HH4 := Lib.hid (HH2.out.keep HB4.out)
      have HZ4 := Lib.hid ((HB4.out.block r HS2.out).trans HZ2.out)
      have HB4b := Lib.hid (HB2.out.trans (HB4.out.mono (by have := HS2.out; omega)))
      have HRX : Hid (r < x) := by show _ < _; rw [← hx]; exact HS2.out
      rw [hx]
      clear hx k0 k1 k2 k3 b0 b1 b2 d0 d1 d2 t5
      have e3 : IntKind.i64.wrap ((n : Int) - 1) = (m : Int) := by have := HNM.out; have := HML.out; rw [IntWalk.i64_in _ (by omega)]; omega
      have i1 : (0 : Int) ≤ (m : Int) := by omega
      have i2 : (m : Int) ≤ (cc_ : Int) := by have := HNM.out; have := HCL.out; omega
      have i2' : m ≤ cc_ := by have := HNM.out; have := HCL.out; omega
      obtain ⟨b0, b1, b2, d0, d1, d2⟩ := dr_cells (HH2.out.keep HB3.out).blk
      rw [HE2.out] at b2
      go_still_tail 15, (by kernel_rfl)
      still_call (clip_any (A := some ⟨g, 0, none⟩) (w := w3.drew) i2' (fun h => by cases h))
      refine wpStill_nil ?_
      change wpList _ _ _ _ _ w3.drew
      clear b0 b1 b2 d0 d1 d2
      obtain ⟨b0, b1, b2, d0, d1, d2⟩ := dr_cells HH4.out.blk
      rw [HE2.out] at b2
      generalize w3.drew = w5 at *
      have HH5 : Hid ((w5.setCell ⟨D, 1, none⟩ (.slice (some ⟨g, 0, none⟩) m m)).heap[D]? = some (drCells (.slice Pv nv cvv) (.slice (some ⟨g, 0, none⟩) m m) (innP (.slice (some ⟨g, 0, none⟩) n cc_)))) := by show _ = _; rw [set_heap HH4.out.blk]; rfl
      have HBt := Lib.hid ((But.refl D w5).setCell 1 (.slice (some ⟨g, 0, none⟩) m m))
      have HSe := Lib.hid (settle_any HH5.out (fun _ => ⟨g, rfl⟩) (Nat.le_refl m) HML.out)
      go_wp2_with fail
      refine HSe.out.mono ?_
      rintro e w6 ⟨rfl, hd6, hb6⟩
      have HB6 := Lib.hid (HBt.out.trans hb6)
      have HS5 : Hid (x < w5.heap.size) := lt_of_heap HX4.out
      have HX6 : Hid (w6.heap[x]? = some O) := (HB6.out.block x HS5.out (by have := HD.out; have := HRX.out; omega)).trans HX4.out
      have HZ6 := Lib.hid ((HB6.out.block r (lt_of_heap HZ4.out) (by have := HD.out; omega)).trans HZ4.out)
      have HD6 := Lib.hid hd6
      have HR6 := Lib.hid (HH4.out.rw.but HH4.out.blk HB6.out)
      have HBf := Lib.hid (HB4b.out.trans (HB6.out.below hD (by have := HD.out; have := HRX.out; have := HS5.out; omega)))
      have hx6 := HX6.out
      have hz6 := HZ6.out
      rw [← hO] at hx6
      obtain ⟨q0, p0⟩ := cells_at hz6 0
      obtain ⟨q1, p1⟩ := cells_at hz6 1
      obtain ⟨q2, p2⟩ := cells_at hz6 2
      obtain ⟨q3, p3⟩ := cells_at hz6 3
      have l0 := (cells_at hx6 0).1
      have l1 := (cells_at hx6 1).1
      have l2 := (cells_at hx6 2).1
      have l3 := (cells_at hx6 3).1
      simp only [List.getElem?_toArray, List.getElem?_cons_zero, List.getElem?_cons_succ] at q0 q1 q2 q3 l0 l1 l2 l3
      clear hd6 hb6 hx6 hz6 b0 b1 b2 d0 d1 d2 hO
      go_wp2_with fail
      have HR7 := Lib.hid (HR6.out.beside HZ6.out (by intro e; have := HG.out; have : g = r := Option.some.inj e; omega) (chg4 w6 r (.int .i64 p.1.op) (.slice Pe ne ce) (.int .i64 ht) (.bool p.1.dead)))
      have HD7 := Lib.hid ((chg4 w6 r (.int .i64 p.1.op) (.slice Pe ne ce) (.int .i64 ht) (.bool p.1.dead) D (lt_of_heap HD6.out) (by intro e; have := HD.out; have : D = r := Option.some.inj e; omega)).trans HD6.out)
      refine bodyPost_ret (v := .tuple #[.agg (cc p).toArray, .int .i64 0]) (by simp [results, Tryz.results85, go_sem, q0, q1, q2, q3, cc, HPE.out, HHT.out]) rfl ⟨fun hno => absurd (by rw [HNV.out]; exact HT5.out) (hno vs rfl), (fun vs' h' _ => ?_), ?_⟩
      · obtain rfl := Option.some.inj h'
        refine ⟨rfl, fun W hW => ?_⟩
        have HR8 := HR7.out.high hW
        have HD8 := (hW D hD (lt_of_heap HD7.out)).trans HD7.out
        refine ⟨⟨_, _, _, q, HD8, HR8.vO.row HR8.vR, ?_, rfl⟩, ?_⟩
        · have := row_take HR8.rowP m m (by simp; have := HQM.out; omega) (Nat.le_refl m) (by have := HML.out; omega)
          rw [List.take_left' HQM.out] at this
          exact this
        · have := HR8.ok p (by simp)
          exact this.1.row this.2.2.1
      · repeat (first | with_reducible exact HBf.out | refine Below.setCell ?_ (by exact hBw) _)
    · have t5 : ((nv : Int) != ht) = true := by simpa using hne
      have HNE := Lib.hid hne
      clear hne hb1 HC hd1 y2 y3 y4 y5 y7 y8 z2 z3 kf hE hht hnv
      go_wp2_with fail
      go_quiet (fail)
      have HB2 := Lib.hid (HB1.out.trans ((drewB w1 nq (Nat.le_refl w1.heap.size)).mono (by have := HS1.out; omega)))
      have hz2 := ((drewB w1 nq (Nat.le_refl w1.heap.size)).block r HS1.out).trans HZ1.out
      obtain ⟨q0, p0⟩ := cells_at hz2 0
      obtain ⟨q1, p1⟩ := cells_at hz2 1
      obtain ⟨q2, p2⟩ := cells_at hz2 2
      obtain ⟨q3, p3⟩ := cells_at hz2 3
      simp only [List.getElem?_toArray, List.getElem?_cons_zero, List.getElem?_cons_succ] at q0 q1 q2 q3
      clear hz2 b0 b1 b2 d0 d1 d2 k0 k1 k2 k3
      generalize w1.drewN nq = w2 at *
      go_wp2_with fail
      refine bodyPost_ret (v := .tuple #[zC, .int .i64 5]) (by simp [results, Tryz.results85, go_sem, zC, q0, q1, q2, q3]) rfl ⟨fun _ => rfl, (fun vs' h h' => absurd h' ?_), ?_⟩
      · obtain rfl := Option.some.inj h
        rw [HNV.out, HHT.out]
        exact HNE.out
      · repeat (first | with_reducible exact HB2.out | refine Below.setCell ?_ (by exact hBw) _)
end Go.Proofs.YtlappkflnlbfcaaGreatDoor.Stk
end
