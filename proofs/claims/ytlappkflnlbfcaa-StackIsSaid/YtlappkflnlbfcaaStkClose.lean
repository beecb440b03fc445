/- The draft's changes, walked: close. -/
import Derived.Test.YtlappkflnlbfcaaStkKill
namespace Go.Proofs.Ytlappkflnlbfcaa.Stk
open Go.RowKit Row9
set_option maxRecDepth 100000
set_option maxHeartbeats 2000000
set_option linter.unusedVariables false
theorem clip_any {A : Option Addr} {n c : Nat} {w : World} (hc : n ≤ c) (hA : A = none → c = 0) : Calls Try.prog 48 #[.slice A n c] w fun e w' => e = .returned (.slice A n n) ∧ w' = w := by
  have i1 : (0 : Int) ≤ (n : Int) := by omega
  have i2 : (n : Int) ≤ (c : Int) := by omega
  rcases A with _ | ⟨g, o, s⟩
  · obtain rfl : c = 0 := hA rfl
    obtain rfl : n = 0 := by omega
    go_enter Try.func48, Try.ntmps48
    go_wp2_with fail
    exact bodyPost_ret (v := .slice none 0 0) (by simp [results, Try.results48, go_sem]) rfl ⟨rfl, rfl⟩
  · clear hA
    go_enter Try.func48, Try.ntmps48
    go_wp2_with fail
    exact bodyPost_ret (v := .slice (some ⟨g, o, s⟩) n n) (by simp [results, Try.results48, go_sem]) rfl ⟨rfl, rfl⟩
/-- The rows of a draft. -/
structure Rw (w : World) (B : Nat) (vv cv : Value) (vals : List Int) (l : List CtV) : Prop where
  vO : Own elB w B vv vals
  vR : ∀ x ∈ vals, 0 ≤ x ∧ x < 256
  cO : Own elP w B cv l
  ok : ∀ p ∈ l, EndOk w B vv p
theorem Dr.rw {w : World} {B D : Nat} {vv cv : Value} {vals : List Int} {l : List CtV} (h : Dr w B D vv cv vals l) : Rw w B vv cv vals l := ⟨h.vO, h.vR, h.cO, h.ok⟩
theorem Rw.keep {w w' : World} {B : Nat} {vv cv : Value} {vals : List Int} {l : List CtV} (h : Rw w B vv cv vals l) (hb : Below w.heap.size w w') : Rw w' B vv cv vals l :=
  ⟨own_keep h.vO hb, h.vR, own_keep h.cO hb, fun p hp => (h.ok p hp).keep hb⟩
theorem own_but {w w' : World} {B D e s n : Nat} {v vv cv pv : Value} {xs : List Value} (h : w.ownsRow B e s v n xs) (hd : w.heap[D]? = some (drCells vv cv pv)) (hne : e ≠ 79) (hb : But D w w') : w'.ownsRow B e s v n xs :=
  own_stay h fun k hk => hb.block k (World.ownsRow.lt h k hk).2 (own_notD h hd hne hk)
theorem Rw.but {w w' : World} {B D : Nat} {vv cv v1 v2 v3 : Value} {vals : List Int} {l : List CtV} (h : Rw w B vv cv vals l) (hd : w.heap[D]? = some (drCells v1 v2 v3)) (hb : But D w w') : Rw w' B vv cv vals l :=
  ⟨own_but h.vO hd (by decide) hb, h.vR, own_but h.cO hd (by decide) hb, fun p hp => ⟨own_but (h.ok p hp).1 hd (by decide) hb, (h.ok p hp).2⟩⟩
/-- A block of what is open, no part of the row: turned. -/
theorem Rw.beside {w w' : World} {B R : Nat} {vv cv : Value} {vals : List Int} {l : List CtV} {cur : Array Value} (h : Rw w B vv cv vals l) (hr : w.heap[R]? = some (.cells cur 46 (0, 0))) (hcv : cv.ownBlock ≠ some R) (hb : Chg w w' (some R)) : Rw w' B vv cv vals l := by
  have key : ∀ {s n : Nat} {v : Value} {xs : List Value}, w.ownsRow B 5 s v n xs → w'.ownsRow B 5 s v n xs := fun hh => own_stay hh fun k hk => hb k (World.ownsRow.lt hh k hk).2 (by
    intro e
    obtain ⟨cur', h1⟩ := own_type hh hk
    rw [Option.some.inj e, hr] at h1
    simp at h1)
  exact ⟨key h.vO, h.vR, own_stay h.cO fun k hk => hb k (World.ownsRow.lt h.cO k hk).2 (by intro e; exact hcv (hk.trans e)), fun p hp => ⟨key (h.ok p hp).1, (h.ok p hp).2⟩⟩
theorem Rw.rowP {w : World} {B : Nat} {vv cv : Value} {vals : List Int} {l : List CtV} (h : Rw w B vv cv vals l) : Row elP w cv l := h.cO.row fun p hp => ⟨(h.ok p hp).1.row (h.ok p hp).2.2.1, (h.ok p hp).2.2.2.1, (h.ok p hp).2.2.2.2.1⟩
/-- A row, cut short. -/
theorem row_take {α : Type} {T : El α} {w : World} {A : Option Addr} {n c : Nat} {l : List α} (h : Row T w (.slice A n c) l) (k c' : Nat) (hk : k ≤ l.length) (hc : k ≤ c') (hm : c' ≤ 9223372036854775807) : Row T w (.slice A k c') (l.take k) := by
  obtain ⟨⟨A', c'', h1, h2, h3, h4⟩, h5⟩ := h
  injection h1 with e1 e2 e3
  subst e1
  have hl : (l.take k).length = k := by rw [List.length_take]; omega
  refine ⟨⟨A, c', by rw [hl], by omega, hm, fun h0 => ?_⟩, fun p hp => h5 p (List.mem_of_mem_take hp)⟩
  obtain ⟨g, off, e, hg, hC⟩ := h4 (by intro e; rw [e] at h0; simp at h0)
  refine ⟨g, off, e, hg, fun j p hp => hC j p ?_⟩
  rw [List.getElem?_take] at hp
  split at hp
  · exact hp
  · cases hp
def zC : Value := .agg #[.int .i64 0, .slice none 0 0, .int .i64 0, .bool false]
theorem chg4 (w : World) (r : Nat) (a b c d : Value) : Chg w ((((w.setCell ⟨r, 0, none⟩ a).setCell ⟨r, 1, none⟩ b).setCell ⟨r, 2, none⟩ c).setCell ⟨r, 3, none⟩ d) (some r) := fun k hk hne => by
  have h : k ≠ r := fun e => hne (congrArg some e)
  rw [Below.heap_setCell _ _ _ _ h, Below.heap_setCell _ _ _ _ h, Below.heap_setCell _ _ _ _ h, Below.heap_setCell _ _ _ _ h]
/-- How close ends. -/
def ClosedNo (e : Ending) : Prop := e = .returned (.tuple #[zC, .int .i64 5])
def ClosedYes (B D : Nat) (p : CtV) (s : Stk) (e : Ending) (w' : World) : Prop := e = .returned (.tuple #[.agg (cc p).toArray, .int .i64 0]) ∧ ∀ W, (∀ k, B ≤ k → k < w'.heap.size → W.heap[k]? = w'.heap[k]?) → Left W D s ∧ Row elB W p.2 p.1.fin
theorem Rw.high {w W : World} {B : Nat} {vv cv : Value} {vals : List Int} {l : List CtV} (h : Rw w B vv cv vals l) (hW : ∀ k, B ≤ k → k < w.heap.size → W.heap[k]? = w.heap[k]?) : Rw W B vv cv vals l :=
  ⟨own_stay h.vO fun k hk => hW k (World.ownsRow.lt h.vO k hk).1 (World.ownsRow.lt h.vO k hk).2, h.vR, own_stay h.cO fun k hk => hW k (World.ownsRow.lt h.cO k hk).1 (World.ownsRow.lt h.cO k hk).2, fun p hp => ⟨own_stay (h.ok p hp).1 fun k hk => hW k (World.ownsRow.lt (h.ok p hp).1 k hk).1 (World.ownsRow.lt (h.ok p hp).1 k hk).2, (h.ok p hp).2⟩⟩
theorem close_none {B D : Nat} {vv cv : Value} {vals : List Int} {w : World} (h : Dr w B D vv cv vals []) (hBw : B ≤ w.heap.size) :
    Calls Try.prog 39 #[.pointer (some ⟨D, 0, none⟩)] w fun e w' => ClosedNo e ∧ Below B w w' := by
  have HB := Lib.hid ((Below.refl w.heap.size w).alloc (Nat.le_refl _) (.cells #[.int .i64 0, .slice none 0 0, .int .i64 0, .bool false] 46))
  obtain ⟨c0, c1, c2, f0, f1, f2⟩ := dr_cells (h.keep HB.out).blk
  rw [h.outer rfl] at c2
  clear h
  go_enter Try.func39, Try.ntmps39
  go_wp2_with fail
  refine bodyPost_ret (v := .tuple #[zC, .int .i64 5]) (by simp [results, Try.results39, go_sem, zC]) rfl ⟨rfl, ?_⟩
  repeat (first | with_reducible exact (HB.out.mono hBw) | refine Below.setCell ?_ (by first | (simp; done) | (simp; omega)) _)
def CloseTold (B D : Nat) (p : CtV) (q : List CtV) (R : Option (List Int)) (w : World) (e : Ending) (w' : World) : Prop :=
  ((∀ vs, R = some vs → (vs.length : Int) ≠ p.1.ht) → ClosedNo e) ∧ (∀ vs, R = some vs → (vs.length : Int) = p.1.ht → ClosedYes B D p ⟨vs, q.map (·.1)⟩ e w') ∧ Below B w w'
theorem close_some {B D : Nat} {vv cv : Value} {vals : List Int} {q : List CtV} {p : CtV} {w : World} (h : Dr w B D vv cv vals (q ++ [p])) (hl : vals.length ≤ 1000000) (hfl : p.1.fin.length ≤ 1000000) (hql : q.length ≤ 1000000) (hBw : B ≤ w.heap.size) (R : Option (List Int)) (hR : wantV (some p.1) vals p.1.fin.reverse = R) :
    Calls Try.prog 39 #[.pointer (some ⟨D, 0, none⟩)] w (CloseTold B D p q R w) := by
  have HB := Lib.hid ((Below.refl w.heap.size w).alloc (Nat.le_refl _) (.cells #[.int .i64 0, .slice none 0 0, .int .i64 0, .bool false] 46))
  have HZ := Lib.hid (heap_new w (.cells #[.int .i64 0, .slice none 0 0, .int .i64 0, .bool false] 46))
  have HS := Lib.hid (size_new w (.cells #[.int .i64 0, .slice none 0 0, .int .i64 0, .bool false] 46))
  have HH := Lib.hid (h.keep HB.out)
  have HD := Lib.hid h.lt
  obtain ⟨c0, c1, c2, f0, f1, f2⟩ := dr_cells HH.out.blk
  obtain ⟨g, cc_, qq, m, rfl, x1, x2, x3, x4, e2, hg, hgD, k0, k1, k2, k3, kf, hE⟩ := HH.out.inner (p := p) (by simp)
  have HG : Hid (g < w.heap.size) := (World.ownsRow.lt h.cO g rfl).2
  rw [e2] at c2
  have hX : ∀ W, But D (w.alloc (.cells #[.int .i64 0, .slice none 0 0, .int .i64 0, .bool false] 46)) W → Row elB W p.2 p.1.fin := fun W hW => Own.row (own_but hE.1 HH.out.blk (by decide) hW) hE.2.2.1
  have HC := Lib.hid (want_any HH.out hl hX hfl)
  rw [show ((q ++ [p]).map (·.1)).getLast? = some p.1 by simp, hR] at HC
  obtain ⟨Pe, ce, hpe⟩ := hE.1.form
  obtain ⟨ne, hne⟩ : ∃ ne, p.1.fin.length = ne := ⟨_, rfl⟩
  rw [hne] at hpe
  have HX := Lib.hid hX
  have hqm : q.length = m := by simpa using x2
  have HQM := Lib.hid hqm
  obtain ⟨n, hn⟩ : ∃ n, (q ++ [p]).length = n := ⟨_, rfl⟩
  have HNM : Hid (n = m + 1) := by show _ = _; rw [← hn]; exact x2
  have HML : Hid (m ≤ 1000000) := by show _ ≤ _; omega
  have HCL : Hid (n ≤ cc_) := by show _ ≤ _; rw [← hn]; exact x1
  rw [hn] at c1 HH HC e2
  rw [hpe] at k1 HC
  have HPE := Lib.hid hpe
  have HE2 := Lib.hid e2
  have hD := h.hD
  clear h hl hfl hql hR hX x1 x2 x3 x4 kf hE hne hpe hqm hn e2
  go_enter Try.func39, Try.ntmps39
  go_wp2_with fail
  generalize hW0 : w.alloc (.cells #[.int .i64 0, .slice none 0 0, .int .i64 0, .bool false] 46) = W0 at *
  have HR : Hid (w.heap.size < W0.heap.size) := by show _ < _; rw [HS.out]; omega
  obtain ⟨r, hr⟩ : ∃ r, w.heap.size = r := ⟨_, rfl⟩
  rw [hr] at HZ HD HG HR hBw ⊢
  have HBB : Hid (Below B w W0) := HB.out.mono (by rw [hr]; exact hBw)
  clear hW0 c0 c1 c2 f0 f1 f2 k0 k1 k2 k3 hg HB HS hr
  refine HC.out.mono ?_
  rintro e w1 ht
  cases R with
  | none =>
    obtain ⟨rfl, hb1⟩ := ht
    have HB1 := Lib.hid (HBB.out.trans (hb1.below hD (by have := HR.out; have := HD.out; omega)))
    have hz1 : w1.heap[r]? = some (.cells #[.int .i64 0, .slice none 0 0, .int .i64 0, .bool false] 46 (0, 0)) := (hb1.block r HR.out (by have := HD.out; omega)).trans HZ.out
    have q0 := cells_at hz1 0
    have q1 := cells_at hz1 1
    have q2 := cells_at hz1 2
    have q3 := cells_at hz1 3
    obtain ⟨q0, p0⟩ := q0
    obtain ⟨q1, p1⟩ := q1
    obtain ⟨q2, p2⟩ := q2
    obtain ⟨q3, p3⟩ := q3
    simp only [List.getElem?_toArray, List.getElem?_cons_zero, List.getElem?_cons_succ] at q0 q1 q2 q3
    clear hb1 HC hz1
    go_wp2_with fail
    refine bodyPost_ret (v := .tuple #[zC, .int .i64 5]) (by simp [results, Try.results39, go_sem, zC, q0, q1, q2, q3]) rfl ⟨fun _ => rfl, (fun vs h => by cases h), ?_⟩
    repeat (first | with_reducible exact HB1.out | refine Below.setCell ?_ (by exact hBw) _)
  | some vs =>
    obtain ⟨vv1, rfl, hd1, hb1⟩ := ht
    have HB1 := Lib.hid (HBB.out.trans (hb1.below hD (by have := HR.out; have := HD.out; omega)))
    have HZ1 : Hid (w1.heap[r]? = some (.cells #[.int .i64 0, .slice none 0 0, .int .i64 0, .bool false] 46 (0, 0))) := (hb1.block r HR.out (by have := HD.out; omega)).trans HZ.out
    have HS1 : Hid (r < w1.heap.size) := lt_of_heap HZ1.out
    have HH1 := Lib.hid hd1
    obtain ⟨b0, b1, b2, d0, d1, d2⟩ := dr_cells hd1.blk
    obtain ⟨g', c', qq', m', y1, y2, y3, y4, y5, y6, y7, y8, k0, k1, k2, k3, kf, hE⟩ := hd1.inner (p := p) (by simp)
    injection y1 with z1 z2 z3
    simp only [Option.some.injEq, Addr.mk.injEq, and_true] at z1
    subst z1
    rw [HE2.out] at y6 b2
    simp only [Value.pointer.injEq, Option.some.injEq, Addr.mk.injEq, and_true, true_and] at y6
    subst y6
    rw [HPE.out] at k1
    obtain ⟨Pv, cvv, hvv⟩ := hd1.vO.form
    obtain ⟨nv, hnv⟩ : ∃ nv, vs.length = nv := ⟨_, rfl⟩
    rw [hnv] at hvv
    subst hvv
    obtain ⟨ht, hht⟩ : ∃ ht, p.1.ht = ht := ⟨_, rfl⟩
    rw [hht] at k2
    have HHT := Lib.hid hht
    have HNV := Lib.hid hnv
    by_cases hne : (nv : Int) = ht
    · have t5 : ((nv : Int) != ht) = false := by simpa using hne
      have HNE := Lib.hid hne
      have HE0 := Lib.hid hE
      clear hne hb1 HC hd1 y2 y3 y4 y5 y8 z2 z3 kf hE hht hnv
      go_wp2_with fail
      go_quiet (fail)
      have HBq := Lib.hid (drewB w1 nq (Nat.le_refl w1.heap.size))
      have HH2 := Lib.hid (HH1.out.keep HBq.out)
      have HB2 := Lib.hid (HB1.out.trans (HBq.out.mono (by have := HS1.out; omega)))
      have HZ2 := Lib.hid ((HBq.out.block r HS1.out).trans HZ1.out)
      have HE2' := Lib.hid (HE0.out.keep HBq.out)
      have k0 := (HBq.out.cell (p := ⟨g, qq, none⟩) y7).trans k0
      have k1 := (HBq.out.cell (p := ⟨g, qq + 1, none⟩) y7).trans k1
      have k2 := (HBq.out.cell (p := ⟨g, qq + 2, none⟩) y7).trans k2
      have k3 := (HBq.out.cell (p := ⟨g, qq + 3, none⟩) y7).trans k3
      obtain ⟨b0, b1, b2, d0, d1, d2⟩ := dr_cells HH2.out.blk
      rw [HE2.out] at b2
      generalize w1.drewN nq = w2 at *
      have HS2 : Hid (r < w2.heap.size) := lt_of_heap HZ2.out
      have HT5 : Hid ((nv : Int) = p.1.ht) := by show _ = _; rw [HHT.out]; exact HNE.out
      clear b0 b1 b2 d0 d1 d2
      obtain ⟨b0, b1, b2, d0, d1, d2⟩ := dr_cells HH2.out.blk
      rw [HE2.out] at b2
      go_wp2_with fail
      obtain ⟨O, hO⟩ : ∃ O, Obj.cells #[.int .i64 p.1.op, .slice Pe ne ce, .int .i64 ht, .bool p.1.dead] 46 (0, 0) = O := ⟨_, rfl⟩
      have HB3 := Lib.hid ((Below.refl w2.heap.size w2).alloc (Nat.le_refl _) O)
      have HX3 := Lib.hid (heap_new w2 O)
      have HS3 := Lib.hid (size_new w2 O)
      rw [hO]
      generalize w2.alloc O = w3 at *
      obtain ⟨x, hx⟩ : ∃ x, w2.heap.size = x := ⟨_, rfl⟩
      have HB4 := Lib.hid (HB3.out.trans ((below_drew1 w3).mono (by rw [HS3.out]; omega)))
      have HX4 : Hid (w3.drew.heap[x]? = some O) := by show _ = _; rw [← hx]; exact HX3.out
      have HH4 := Lib.hid (HH2.out.keep HB4.out)
      have HZ4 := Lib.hid ((HB4.out.block r HS2.out).trans HZ2.out)
      have HB4b := Lib.hid (HB2.out.trans (HB4.out.mono (by have := HS2.out; omega)))
      have HRX : Hid (r < x) := by show _ < _; rw [← hx]; exact HS2.out
      rw [hx]
      clear hx k0 k1 k2 k3 b0 b1 b2 d0 d1 d2 t5
      have e3 : IntKind.i64.wrap ((n : Int) - 1) = (m : Int) := by have := HNM.out; have := HML.out; rw [IntWalk.i64_in _ (by omega)]; omega
      have i1 : (0 : Int) ≤ (m : Int) := by omega
      have i2 : (m : Int) ≤ (cc_ : Int) := by have := HNM.out; have := HCL.out; omega
      have i2' : m ≤ cc_ := by have := HNM.out; have := HCL.out; omega
      obtain ⟨b0, b1, b2, d0, d1, d2⟩ := dr_cells (HH2.out.keep HB3.out).blk
      rw [HE2.out] at b2
      go_still_tail 15, (by kernel_rfl)
      still_call (clip_any (A := some ⟨g, 0, none⟩) (w := w3.drew) i2' (fun h => by cases h))
      refine wpStill_nil ?_
      change wpList _ _ _ _ _ w3.drew
      clear b0 b1 b2 d0 d1 d2
      obtain ⟨b0, b1, b2, d0, d1, d2⟩ := dr_cells HH4.out.blk
      rw [HE2.out] at b2
      generalize w3.drew = w5 at *
      have HH5 : Hid ((w5.setCell ⟨D, 1, none⟩ (.slice (some ⟨g, 0, none⟩) m m)).heap[D]? = some (drCells (.slice Pv nv cvv) (.slice (some ⟨g, 0, none⟩) m m) (innP (.slice (some ⟨g, 0, none⟩) n cc_)))) := by show _ = _; rw [set_heap HH4.out.blk]; rfl
      have HBt := Lib.hid ((But.refl D w5).setCell 1 (.slice (some ⟨g, 0, none⟩) m m))
      have HSe := Lib.hid (settle_any HH5.out (fun _ => ⟨g, rfl⟩) (Nat.le_refl m) HML.out)
      go_wp2_with fail
      refine HSe.out.mono ?_
      rintro e w6 ⟨rfl, hd6, hb6⟩
      have HB6 := Lib.hid (HBt.out.trans hb6)
      have HS5 : Hid (x < w5.heap.size) := lt_of_heap HX4.out
      have HX6 : Hid (w6.heap[x]? = some O) := (HB6.out.block x HS5.out (by have := HD.out; have := HRX.out; omega)).trans HX4.out
      have HZ6 := Lib.hid ((HB6.out.block r (lt_of_heap HZ4.out) (by have := HD.out; omega)).trans HZ4.out)
      have HD6 := Lib.hid hd6
      have HR6 := Lib.hid (HH4.out.rw.but HH4.out.blk HB6.out)
      have HBf := Lib.hid (HB4b.out.trans (HB6.out.below hD (by have := HD.out; have := HRX.out; have := HS5.out; omega)))
      have hx6 := HX6.out
      have hz6 := HZ6.out
      rw [← hO] at hx6
      obtain ⟨q0, p0⟩ := cells_at hz6 0
      obtain ⟨q1, p1⟩ := cells_at hz6 1
      obtain ⟨q2, p2⟩ := cells_at hz6 2
      obtain ⟨q3, p3⟩ := cells_at hz6 3
      have l0 := (cells_at hx6 0).1
      have l1 := (cells_at hx6 1).1
      have l2 := (cells_at hx6 2).1
      have l3 := (cells_at hx6 3).1
      simp only [List.getElem?_toArray, List.getElem?_cons_zero, List.getElem?_cons_succ] at q0 q1 q2 q3 l0 l1 l2 l3
      clear hd6 hb6 hx6 hz6 b0 b1 b2 d0 d1 d2 hO
      go_wp2_with fail
      have HR7 := Lib.hid (HR6.out.beside HZ6.out (by intro e; have := HG.out; have : g = r := Option.some.inj e; omega) (chg4 w6 r (.int .i64 p.1.op) (.slice Pe ne ce) (.int .i64 ht) (.bool p.1.dead)))
      have HD7 := Lib.hid ((chg4 w6 r (.int .i64 p.1.op) (.slice Pe ne ce) (.int .i64 ht) (.bool p.1.dead) D (lt_of_heap HD6.out) (by intro e; have := HD.out; have : D = r := Option.some.inj e; omega)).trans HD6.out)
      refine bodyPost_ret (v := .tuple #[.agg (cc p).toArray, .int .i64 0]) (by simp [results, Try.results39, go_sem, q0, q1, q2, q3, cc, HPE.out, HHT.out]) rfl ⟨fun hno => absurd (by rw [HNV.out]; exact HT5.out) (hno vs rfl), (fun vs' h' _ => ?_), ?_⟩
      · obtain rfl := Option.some.inj h'
        refine ⟨rfl, fun W hW => ?_⟩
        have HR8 := HR7.out.high hW
        have HD8 := (hW D hD (lt_of_heap HD7.out)).trans HD7.out
        refine ⟨⟨_, _, _, q, HD8, HR8.vO.row HR8.vR, ?_, rfl⟩, ?_⟩
        · have := row_take HR8.rowP m m (by simp; have := HQM.out; omega) (Nat.le_refl m) (by have := HML.out; omega)
          rw [List.take_left' HQM.out] at this
          exact this
        · have := HR8.ok p (by simp)
          exact this.1.row this.2.2.1
      · repeat (first | with_reducible exact HBf.out | refine Below.setCell ?_ (by exact hBw) _)
    · have t5 : ((nv : Int) != ht) = true := by simpa using hne
      have HNE := Lib.hid hne
      clear hne hb1 HC hd1 y2 y3 y4 y5 y7 y8 z2 z3 kf hE hht hnv
      go_wp2_with fail
      go_quiet (fail)
      have HB2 := Lib.hid (HB1.out.trans ((drewB w1 nq (Nat.le_refl w1.heap.size)).mono (by have := HS1.out; omega)))
      have hz2 := ((drewB w1 nq (Nat.le_refl w1.heap.size)).block r HS1.out).trans HZ1.out
      obtain ⟨q0, p0⟩ := cells_at hz2 0
      obtain ⟨q1, p1⟩ := cells_at hz2 1
      obtain ⟨q2, p2⟩ := cells_at hz2 2
      obtain ⟨q3, p3⟩ := cells_at hz2 3
      simp only [List.getElem?_toArray, List.getElem?_cons_zero, List.getElem?_cons_succ] at q0 q1 q2 q3
      clear hz2 b0 b1 b2 d0 d1 d2 k0 k1 k2 k3
      generalize w1.drewN nq = w2 at *
      go_wp2_with fail
      refine bodyPost_ret (v := .tuple #[zC, .int .i64 5]) (by simp [results, Try.results39, go_sem, zC, q0, q1, q2, q3]) rfl ⟨fun _ => rfl, (fun vs' h h' => absurd h' ?_), ?_⟩
      · obtain rfl := Option.some.inj h
        rw [HNV.out, HHT.out]
        exact HNE.out
      · repeat (first | with_reducible exact HB2.out | refine Below.setCell ?_ (by exact hBw) _)
end Go.Proofs.Ytlappkflnlbfcaa.Stk
