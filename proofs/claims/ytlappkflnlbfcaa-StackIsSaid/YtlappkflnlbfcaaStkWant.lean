/- The draft's changes, walked: want, push. -/
import Derived.Test.YtlappkflnlbfcaaStkPop
namespace Go.Proofs.Ytlappkflnlbfcaa.Stk
open Go.RowKit Row9
set_option maxRecDepth 100000
set_option maxHeartbeats 2000000
set_option linter.unusedVariables false
theorem fits_any (v x : Int) (w : World) : Calls Try.prog 46 #[.int .u8 v, .int .u8 x] w fun e w' => e = .returned (.bool (fit v x)) ∧ w' = w := by
  unfold fit
  cases h1 : (v == x) <;> cases h2 : (v == 0) <;> cases h3 : (x == 0)
  all_goals (
    go_enter Try.func46, Try.ntmps46
    go_wp2_with fail
    first
    | exact bodyPost_ret (v := .bool true) (by simp [results, Try.results46, go_sem]) rfl ⟨rfl, rfl⟩
    | exact bodyPost_ret (v := .bool false) (by simp [results, Try.results46, go_sem]) rfl ⟨rfl, rfl⟩)
/-- How want ends. -/
def WantYes (B D : Nat) (cv : Value) (l : List CtV) (vs : List Int) (w : World) (e : Ending) (w' : World) : Prop := ∃ vv', e = .returned (.int .i64 0) ∧ Dr w' B D vv' cv vs l ∧ But D w w'
def WantTold (B D : Nat) (cv : Value) (l : List CtV) (o : Option (List Int)) (w : World) (e : Ending) (w' : World) : Prop := match o with
  | none => e = .returned (.int .i64 5) ∧ But D w w'
  | some vs => WantYes B D cv l vs w e w'
theorem take_succ_rev (xs : List Int) (i : Nat) (h : i < xs.length) : (xs.take (i + 1)).reverse = xs.getD i 0 :: (xs.take i).reverse := by
  rw [List.take_add_one, List.getElem?_eq_getElem h, List.reverse_append, List.getD_eq_getElem?_getD, List.getElem?_eq_getElem h]
  rfl
theorem popV_len {o : Option Ctl} {vals vs : List Int} {v : Int} (h : popV o vals = some (vs, v)) : vs.length ≤ vals.length := by
  unfold popV at h
  split at h
  · cases h
  · split at h
    · simp only [Option.some.injEq, Prod.mk.injEq] at h
      rw [← h.1, List.length_dropLast]
      omega
    · split at h
      · simp only [Option.some.injEq, Prod.mk.injEq] at h
        rw [← h.1]
        exact Nat.le_refl _
      · cases h
theorem wantV_none {o : Option Ctl} {vals : List Int} {x : Int} {r : List Int} (h : popV o vals = none) : wantV o vals (x :: r) = none := by
  rw [wantV, h]
theorem wantV_some {o : Option Ctl} {vals vs : List Int} {x v : Int} {r : List Int} (h : popV o vals = some (vs, v)) : wantV o vals (x :: r) = if fit v x = true then wantV o vs r else none := by
  rw [wantV, h]
theorem want_any {B D : Nat} {vv cv x : Value} {vals xs : List Int} {l : List CtV} {w : World} (h : Dr w B D vv cv vals l) (hl : vals.length ≤ 1000000) (hx : ∀ W, But D w W → Row elB W x xs) (hxl : xs.length ≤ 1000000) :
    Calls Try.prog 34 #[.pointer (some ⟨D, 0, none⟩), x] w (WantTold B D cv l (wantV (l.map (·.1)).getLast? vals xs.reverse) w) := by
  have HH := Lib.hid h
  have HX := Lib.hid hx
  obtain ⟨o, ho⟩ : ∃ o, (l.map (·.1)).getLast? = o := ⟨_, rfl⟩
  rw [ho]
  have HO := Lib.hid ho
  obtain ⟨P, c, rfl, hc, hm⟩ := (hx w (But.refl _ _)).form
  obtain ⟨n, hn⟩ : ∃ n, xs.length = n := ⟨_, rfl⟩
  rw [hn] at hxl hc ⊢
  rw [hn] at HX
  have HN := Lib.hid hn
  have HL := Lib.hid hl
  have e0 : IntKind.i64.wrap ((n : Int) - 1) = (n : Int) - 1 := IntWalk.i64_in _ (by omega)
  obtain ⟨R, hR⟩ : ∃ R, wantV o vals xs.reverse = R := ⟨_, rfl⟩
  rw [hR]
  have HR := Lib.hid hR
  clear h hx ho hn hl hm hR
  go_enter Try.func34, Try.ntmps34
  go_wp2_with fail
  go_loopw [5] (fun k' wr => ∃ (j : Nat) (v : Int) (vs : List Int) (vj : Value), k' = .int .i64 v ∧ v + 1 = (j : Int) ∧ j ≤ n ∧ But D w wr ∧ Dr wr B D vj cv vs l ∧ R = wantV o vs (xs.take j).reverse ∧ vs.length ≤ 1000000) (fun k' _ => (intOf k' + 1).toNat)
  case atStart => exact ⟨n, (n : Int) - 1, vals, vv, rfl, by omega, Nat.le_refl _, But.refl _ _, HH.out, by rw [List.take_of_length_le (by rw [HN.out]; exact Nat.le_refl _)]; exact HR.out.symm, HL.out⟩
  case round =>
    obtain ⟨j, v, vs, vj, rfl, hj, hjn, hb, hd, hr, hvl⟩ := hrel
    have HB := Lib.hid hb
    have HDr := Lib.hid hd
    have HRR := Lib.hid hr
    clear hb hd hr
    rcases j with _ | i
    · have t1 : decide (0 ≤ v) = false := decide_eq_false (by omega)
      have HQ : Hid (R = some vs) := HRR.out
      clear hj hjn HRR
      go_wp2_with fail
      refine bodyPost_ret (v := .int .i64 0) (by simp [results, Try.results34, go_sem]) rfl ?_
      rw [HQ.out]
      exact ⟨vj, rfl, HDr.out, HB.out⟩
    · obtain rfl : v = (i : Int) := by omega
      have t1 : decide (0 ≤ (i : Int)) = true := decide_eq_true (by omega)
      obtain ⟨y, hy⟩ : ∃ y, xs.getD i 0 = y := ⟨_, rfl⟩
      have hq := HRR.out
      rw [take_succ_rev xs i (by rw [HN.out]; omega), hy] at hq
      have HY := Lib.hid hy
      have HC := Lib.hid (pop_any HDr.out hvl)
      rw [HO.out] at HC
      clear hj hy
      cases hpo : popV o vs with
      | none =>
        rw [wantV_none hpo] at hq
        have HQ := Lib.hid hq
        rw [hpo] at HC
        clear hq hpo
        go_wp2_with fail
        refine HC.out.mono ?_
        rintro e w1 ⟨rfl, hb1⟩
        have HB1 := Lib.hid (HB.out.trans hb1)
        clear hb1
        go_wp2_with fail
        refine bodyPost_ret (v := .int .i64 5) (by simp [results, Try.results34, go_sem]) rfl ?_
        rw [HQ.out]
        exact ⟨rfl, HB1.out⟩
      | some pr =>
        obtain ⟨vs1, u⟩ := pr
        rw [wantV_some hpo] at hq
        have HQ := Lib.hid hq
        have HVL := Lib.hid (Nat.le_trans (popV_len hpo) hvl)
        rw [hpo] at HC
        clear hq hpo
        go_wp2_with fail
        refine HC.out.mono ?_
        rintro e w1 ⟨v1, rfl, hd1, hb1⟩
        have HB1 := Lib.hid (HB.out.trans hb1)
        have HD1 := Lib.hid hd1
        clear hb1 hd1
        obtain ⟨gx, ox, rfl, hgx, hcx, hr1, hr2⟩ := byte_at (HX.out w1 HB1.out) (j := i) (by rw [HN.out]; omega)
        rw [HY.out] at hcx
        have i1 : (0 : Int) ≤ (i : Int) := by omega
        have i2 : (i : Int) < (n : Int) := by omega
        have e3 : IntKind.i64.wrap ((i : Int) - 1) = (i : Int) - 1 := IntWalk.i64_in _ (by omega)
        have HF := Lib.hid (fits_any u y w1)
        clear hr1 hr2 hgx
        go_wp2_with fail
        refine HF.out.mono ?_
        rintro e w2 ⟨rfl, rfl⟩
        cases hf : fit u y with
        | false =>
          have HQ2 : Hid (R = none) := by
            show _ = _
            rw [HQ.out, hf]
            rfl
          clear hf HF
          go_wp2_with fail
          refine bodyPost_ret (v := .int .i64 5) (by simp [results, Try.results34, go_sem]) rfl ?_
          rw [HQ2.out]
          exact ⟨rfl, HB1.out⟩
        | true =>
          have HQ2 : Hid (R = wantV o vs1 (xs.take i).reverse) := by
            show _ = _
            rw [HQ.out, hf]
            rfl
          clear hf HF
          go_wp2_with fail
          go_roundw
          case rel => exact ⟨i, (i : Int) - 1, vs1, v1, by go_num, by omega, by omega, HB1.out, HD1.out, HQ2.out, HVL.out⟩
          case measure => first | (simp [intOf]; done) | (simp [intOf]; omega)
/-- What a change leaves in the draft's block. -/
def Left (w : World) (D : Nat) (s : Stk) : Prop := ∃ a c pv l, w.heap[D]? = some (drCells a c pv) ∧ Row elB w a s.vals ∧ Row elP w c l ∧ l.map (·.1) = s.cs
theorem Dr.left {w : World} {B D : Nat} {vv cv : Value} {vals : List Int} {l : List CtV} (h : Dr w B D vv cv vals l) : Left w D ⟨vals, l.map (·.1)⟩ := ⟨_, _, _, l, h.blk, h.rowB, h.rowP, rfl⟩
/-- A row of the call's own that a change of another row's block leaves. -/
theorem Dr.grow {w w' : World} {B D : Nat} {vv cv vv' : Value} {vals vals' : List Int} {l : List CtV} (h : Dr w B D vv cv vals l) (hO : Own elB w' B vv' vals') (hR : ∀ x ∈ vals', 0 ≤ x ∧ x < 256) (hc : Chg w w' vv.ownBlock) : Left (w'.setCell ⟨D, 0, none⟩ vv') D ⟨vals', l.map (·.1)⟩ ∧ w'.cell? ⟨D, 0, none⟩ = some vv ∧ w'.frozen? ⟨D, 0, none⟩ = false := by
  have hD : w'.heap[D]? = some (drCells vv cv (innP cv)) := by
    rw [hc D h.lt (fun e => own_notD h.vO h.blk (by decide) e.symm rfl)]
    exact h.blk
  have hcO : Own elP w' B cv l := own_stay h.cO fun k hk => hc k (World.ownsRow.lt h.cO k hk).2 (own_ne h.cO h.vO (by decide) hk)
  refine ⟨⟨vv', cv, innP cv, l, by rw [drCells, set_heap hD]; rfl, Own.row (own_setD hO hD (by decide) _ _) hR, Own.row (own_setD hcO hD (by decide) _ _) fun p hp => ?_, rfl⟩, (cells_at hD 0).1, (cells_at hD 0).2⟩
  obtain ⟨e1, e2, e3, e4, e5, e6⟩ := h.ok p hp
  have e1' : Own elB w' B p.2 p.1.fin := own_stay e1 fun k hk => hc k (World.ownsRow.lt e1 k hk).2 (e2 k hk)
  exact ⟨Own.row (own_setD e1' hD (by decide) _ _) e3, e4, e5⟩
/-- How push, open, kill end: by an error, or by a stack. -/
def MadeTold (D : Nat) (e0 : Int) (s : Stk) (e : Ending) (w' : World) : Prop := e = .returned (.int .i64 e0) ∧ (e0 = 0 → Left w' D s)
def chosen {α : Type} (b : Bool) (x y : α) : α := match b with
  | true => x
  | false => y
theorem push_any {B D : Nat} {vv cv x : Value} {vals xs : List Int} {l : List CtV} {w : World} (h : Dr w B D vv cv vals l) (hx : Row elB w x xs) (hl : vals.length + xs.length ≤ 1000000) (hBw : B ≤ w.heap.size) :
    Calls Try.prog 29 #[.pointer (some ⟨D, 0, none⟩), x] w fun e w' => MadeTold D (chosen (xs.any noT) 1 0) ⟨vals ++ xs, l.map (·.1)⟩ e w' ∧ Below B w w' := by
  obtain ⟨c0, c1, c2, f0, f1, f2⟩ := dr_cells h.blk
  have HH := Lib.hid h
  have HX := Lib.hid hx
  have HL := Lib.hid hl
  have HC := Lib.hid (con_any hx)
  obtain ⟨P, c, rfl, hc, hm⟩ := hx.form
  cases hq : xs.any noT with
  | true =>
    rw [hq] at HC
    clear h hx hl hc hm hq
    go_enter Try.func29, Try.ntmps29
    go_wp2_with fail
    refine HC.out.mono ?_
    rintro e w1 ⟨rfl, rfl⟩
    go_wp2_with fail
    exact bodyPost_ret (v := .int .i64 1) (by simp [results, Try.results29, go_sem]) rfl ⟨⟨rfl, fun h => absurd h (by decide)⟩, Below.refl _ _⟩
  | false =>
    rw [hq] at HC
    obtain ⟨Pv, cv_, hv⟩ := h.vO.form
    obtain ⟨n, hn⟩ : ∃ n, xs.length = n := ⟨_, rfl⟩
    obtain ⟨m, hm2⟩ : ∃ m, vals.length = m := ⟨_, rfl⟩
    rw [hm2] at hv
    rw [hn] at HX HC ⊢
    subst hv
    clear h hx hl hc hm hq hn hm2
    go_enter Try.func29, Try.ntmps29
    go_wp2_with fail
    refine HC.out.mono ?_
    rintro e w1 ⟨rfl, rfl⟩
    go_wp2_with (at_builtin; refine stop_ ?_)
    refine Lib.hid ?_
    refine wp_rowsG elB 22 Try.underlying22 _ rfl (.tmp 12) (.tmp 13) rfl B _ _ vals xs rfl HH.out.vO rfl HX.out HL.out (by decide) hBw ?_
    intro v1 w2 ho1 hb1 hch
    obtain ⟨HL2, hg0, hf0⟩ := HH.out.grow ho1 (by
      intro y hy
      rcases List.mem_append.1 hy with hy | hy
      · exact HH.out.vR y hy
      · exact HX.out.2 y hy) hch
    have HLL := Lib.hid HL2
    have HB := Lib.hid hb1
    obtain ⟨P1, c1_, hv1⟩ := ho1.form
    obtain ⟨n1, hn1⟩ : ∃ n, (vals ++ xs).length = n := ⟨_, rfl⟩
    rw [hn1] at hv1
    subst hv1
    clear HL2 ho1 hb1 hch hn1
    go_wp2_with fail
    refine bodyPost_ret (v := .int .i64 0) (by simp [results, Try.results29, go_sem]) rfl ⟨⟨rfl, fun _ => HLL.out⟩, HB.out.setCell HH.out.hD _⟩
end Go.Proofs.Ytlappkflnlbfcaa.Stk
