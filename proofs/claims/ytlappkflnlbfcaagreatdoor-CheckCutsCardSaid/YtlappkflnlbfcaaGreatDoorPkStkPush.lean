/- StkChg, StkPush. -/
import Derived.Test.YtlappkflnlbfcaaGreatDoorPkStkSane
section
/- A change of a stack, walked: what it hands back. -/
namespace Go.Proofs.YtlappkflnlbfcaaGreatDoor.Stk
open Go.RowKit Row9
set_option maxRecDepth 100000
set_option maxHeartbeats 2000000
set_option linter.unusedVariables false
theorem run_k {k : FuncId} (h : Stab.FnOk Tryz.prog k) (args : Array Value) (w : World) : (callFunc k args).run Tryz.prog w = .ok (.enter k args) w := by
  obtain ⟨fn, hf, h1, h2⟩ := h
  exact Stab.run_enter hf h1 h2 args w
/-- A block that holds no number. -/
def NoInt (w : World) (r : Nat) : Prop := ∀ i k x, w.cell? ⟨r, i, none⟩ ≠ some (.int k x)
theorem row_besideB {w w' : World} {r : Nat} {v : Value} {l : List Int} (h : Row elB w v l) (hr : NoInt w r) (hc : Chg w w' (some r)) (hs : w.heap.size ≤ w'.heap.size) : Row elB w' v l := by
  obtain ⟨⟨A, c, h1, h2, h3, h4⟩, h5⟩ := h
  refine ⟨⟨A, c, h1, h2, h3, fun h0 => ?_⟩, h5⟩
  obtain ⟨g, off, e, hg, hC⟩ := h4 h0
  refine ⟨g, off, e, by omega, fun j p hp i u hu => ?_⟩
  have h6 := hC j p hp i u hu
  have hne : g ≠ r := by
    intro e1
    subst e1
    have : u = .int .u8 p := by
      have hi := (List.getElem?_eq_some_iff.1 hu).1
      have : i = 0 := by simp [elB] at hi; omega
      subst this
      simpa [elB] using hu.symm
    rw [this] at h6
    exact hr _ _ _ h6
  rw [World.cell?_of_block (a := ⟨g, off + j * elB.s + i, none⟩) (hc g hg (by intro e1; exact hne (Option.some.inj e1)))]
  exact h6
theorem row_besideC {e : TypeId} {hi} {w w' : World} {r : Nat} {v : Value} {l : List CtV} (h : Row (elCt e hi) w v l) (hr : NoInt w r) (hc : Chg w w' (some r)) (hs : w.heap.size ≤ w'.heap.size) : Row (elCt e hi) w' v l := by
  obtain ⟨⟨A, c, h1, h2, h3, h4⟩, h5⟩ := h
  refine ⟨⟨A, c, h1, h2, h3, fun h0 => ?_⟩, fun p hp => ⟨row_besideB (h5 p hp).1 hr hc hs, (h5 p hp).2⟩⟩
  obtain ⟨g, off, e1, hg, hC⟩ := h4 h0
  refine ⟨g, off, e1, by omega, fun j p hp i u hu => ?_⟩
  have h6 := hC j p hp i u hu
  have hne : g ≠ r := by
    intro e2
    subst e2
    exact hr _ _ _ (hC j p hp 0 _ rfl)
  rw [World.cell?_of_block (a := ⟨g, off + j * (elCt e hi).s + i, none⟩) (hc g hg (by intro e2; exact hne (Option.some.inj e2)))]
  exact h6
def zS : Value := .agg #[.slice none 0 0, .slice none 0 0]
/-- All below B is as it was, but what b names. -/
structure BO (B : Nat) (b : Option Nat) (w w' : World) : Prop where
  os : w'.os = w.os
  tape : w'.tape = w.tape
  output : w'.output = w.output
  size : w.heap.size ≤ w'.heap.size
  block : ∀ k, k < B → some k ≠ b → w'.heap[k]? = w.heap[k]?
theorem BO.of_below {B : Nat} {b : Option Nat} {w w' : World} (h : Below B w w') : BO B b w w' := ⟨h.os, h.tape, h.output, h.size, fun k hk _ => h.block k hk⟩
theorem BO.trans {B : Nat} {b : Option Nat} {a c d : World} (h : BO B b a c) (k : BO B b c d) : BO B b a d :=
  ⟨k.os.trans h.os, k.tape.trans h.tape, k.output.trans h.output, Nat.le_trans h.size k.size, fun i hi hn => (k.block i hi hn).trans (h.block i hi hn)⟩
theorem BO.below {B : Nat} {w w' : World} (h : BO B none w w') : Below B w w' := ⟨h.os, h.tape, h.output, h.size, fun k hk => h.block k hk (by simp)⟩
/-- How a change ends. -/
def ChTold (b : Option Nat) (s : Stk) (e0 : Int) (s' : Stk) (K : World → Prop) (w : World) (e : Ending) (w' : World) : Prop :=
  (sane s = false ∧ e = .returned (.tuple #[zS, .int .i64 1]) ∧ Below w.heap.size w w') ∨ (sane s = true ∧ e0 ≠ 0 ∧ e = .returned (.tuple #[zS, .int .i64 e0]) ∧ K w' ∧ BO w.heap.size b w w') ∨ (sane s = true ∧ e0 = 0 ∧ ∃ v, e = .returned (.tuple #[v, .int .i64 0]) ∧ StIs elP w' v s' ∧ K w' ∧ BO w.heap.size b w w')
theorem Dr.low {w : World} {B B' D : Nat} {vv cv : Value} {vals : List Int} {l : List CtV} (h : Dr w B D vv cv vals l) (hB : B' ≤ B) : Dr w B' D vv cv vals l :=
  ⟨Nat.le_trans hB h.hD, h.blk, own_low h.vO hB, h.vR, own_low h.cO hB, fun p hp => ⟨own_low (h.ok p hp).1 hB, (h.ok p hp).2⟩⟩
theorem chg2 (w : World) (r : Nat) (a b : Value) : Chg w ((w.setCell ⟨r, 0, none⟩ a).setCell ⟨r, 1, none⟩ b) (some r) := fun k hk hne => by
  have h : k ≠ r := fun e => hne (congrArg some e)
  rw [Below.heap_setCell _ _ _ _ h, Below.heap_setCell _ _ _ _ h]
theorem noint2 {w : World} {r : Nat} {t : TypeId} (h : w.heap[r]? = some (.cells #[.slice none 0 0, .slice none 0 0] t (0, 0))) : NoInt w r := fun i k x e => by
  rw [(cells_at h i).1] at e
  match i, e with
  | 0, e => cases e
  | 1, e => cases e
  | i + 2, e => cases e
theorem changed_any {a c : Value} {vals : List Int} {l : List CtV} {k : FuncId} {caps : Array Value} {w : World} {b : Option Nat} {e0 : Int} {s' : Stk} {K : World → Prop} (ha : Row elB w a vals) (hc : Row elP w c l) (hvl : vals.length ≤ 1000000) (hll : l.length ≤ 1000000)
    (hk : Stab.FnOk Tryz.prog k) (hKk : ∀ W W' r, K W → w.heap.size ≤ r → NoInt W r → Chg W W' (some r) → W.heap.size ≤ W'.heap.size → K W')
    (hF : sane ⟨vals, l.map (·.1)⟩ = true → ∀ W B D vv cv l', w.heap.size ≤ B → Below w.heap.size w W → Dr W B D vv cv vals l' → l'.map (·.1) = l.map (·.1) → Calls Tryz.prog k (#[.pointer (some ⟨D, 0, none⟩)] ++ caps) W fun e W' => e = .returned (.int .i64 e0) ∧ K W' ∧ (e0 = 0 → Left W' D s') ∧ BO B b W W')
    (hbr : ∀ x, w.heap.size ≤ x → some x ≠ b) :
    Calls Tryz.prog 83 #[.agg #[a, c], .func (.func k) #[] caps] w (ChTold b ⟨vals, l.map (·.1)⟩ e0 s' K w) := by
  have hrun := run_k hk
  have HA := Lib.hid ha
  have HC := Lib.hid hc
  obtain ⟨Pa, ca, rfl, _⟩ := ha.form
  obtain ⟨Pc, cc_, rfl, _⟩ := hc.form
  obtain ⟨nv, hnv⟩ : ∃ n, vals.length = n := ⟨_, rfl⟩
  obtain ⟨n, hn⟩ : ∃ n, l.length = n := ⟨_, rfl⟩
  rw [hnv] at HA ⊢
  rw [hn] at HC ⊢
  have HVL := Lib.hid hvl
  have HLL := Lib.hid hll
  have HF := Lib.hid hF
  have HKK := Lib.hid hKk
  have HBR := Lib.hid hbr
  have HW1 := Lib.hid (below_new w (.cells #[.slice Pa nv ca, .slice Pc n cc_] 39))
  have HS1 := Lib.hid (size_new w (.cells #[.slice Pa nv ca, .slice Pc n cc_] 39))
  have HX1 := Lib.hid (heap_new w (.cells #[.slice Pa nv ca, .slice Pc n cc_] 39))
  clear ha hc hvl hll hF hKk hbr hnv hn
  go_enter Tryz.func83, Tryz.ntmps83
  go_wp2_with fail
  have HW2 := Lib.hid (HW1.out.trans ((below_new (w.alloc (.cells #[.slice Pa nv ca, .slice Pc n cc_] 39)) (.cells #[.slice none 0 0, .slice none 0 0] 39)).mono HW1.out.size))
  have HW12 := Lib.hid (below_new (w.alloc (.cells #[.slice Pa nv ca, .slice Pc n cc_] 39)) (.cells #[.slice none 0 0, .slice none 0 0] 39))
  have HZ2 := Lib.hid (heap_new (w.alloc (.cells #[.slice Pa nv ca, .slice Pc n cc_] 39)) (.cells #[.slice none 0 0, .slice none 0 0] 39))
  have HT2 := Lib.hid (box2_keep HW12.out)
  rw [HS1.out] at HZ2
  generalize (w.alloc (.cells #[.slice Pa nv ca, .slice Pc n cc_] 39)).alloc (.cells #[.slice none 0 0, .slice none 0 0] 39) = w2 at *
  clear HW1 HS1 HX1 HW12
  obtain ⟨z, hz⟩ : ∃ z, w.heap.size = z := ⟨_, rfl⟩
  rw [hz] at HT2 HZ2
  obtain ⟨r, hr⟩ : ∃ r, z + 1 = r := ⟨_, rfl⟩
  have HR : Hid (w.heap.size ≤ r ∧ some r ≠ b ∧ w.heap.size ≤ z ∧ z < r) := ⟨by omega, HBR.out r (by omega), by omega, by omega⟩
  rw [hz, hr]
  rw [hr] at HZ2
  clear hz hr
  refine (sane_any (HA.out.keep HW2.out) (HC.out.keep HW2.out)).mono ?_
  rintro e w3 ⟨rfl, hb3⟩
  have HB3 := Lib.hid (HW2.out.trans (hb3.mono HW2.out.size))
  have hz3 := (hb3.block r (lt_of_heap HZ2.out)).trans HZ2.out
  have HZ3 := Lib.hid hz3
  have HRL := Lib.hid (lt_of_heap hz3)
  cases hs : sane ⟨vals, l.map (·.1)⟩ with
  | false =>
    have HS := Lib.hid hs
    obtain ⟨q0, p0⟩ := cells_at hz3 0
    obtain ⟨q1, p1⟩ := cells_at hz3 1
    simp only [List.getElem?_toArray, List.getElem?_cons_zero, List.getElem?_cons_succ] at q0 q1
    clear hs hb3 hz3 hrun
    go_wp2_with fail
    refine bodyPost_ret (v := .tuple #[zS, .int .i64 1]) (by simp [results, Tryz.results83, go_sem, zS, q0, q1]) rfl (.inl ⟨HS.out, rfl, ?_⟩)
    exact (HB3.out.setCell (p := ⟨r, 0, none⟩) HR.out.1 _).setCell (p := ⟨r, 1, none⟩) HR.out.1 _
  | true =>
    have HS := Lib.hid hs
    have hfs := (sane_facts hs).1
    have hzl := World.block_lt_of_cell? w2 _ HT2.out.1
    have t0 := (hb3.cell (p := ⟨z, 0, none⟩) hzl).trans HT2.out.1
    have t1 := (hb3.cell (p := ⟨z, 1, none⟩) hzl).trans HT2.out.2
    have HDr := Lib.hid (drafted_any (HA.out.keep HB3.out) (HC.out.keep HB3.out) (fun p hp => (hfs p.1 (List.mem_map_of_mem hp)).1) HVL.out HLL.out (fun p hp => by have := mayE_len (hfs p.1 (List.mem_map_of_mem hp)).2.2; omega))
    clear hs hb3 hz3 hfs hzl
    go_wp2_with fail
    refine HDr.out.mono ?_
    rintro e w4 ⟨D, vv, cv, l', rfl, hd, hl', hb4⟩
    have HB4 := Lib.hid (HB3.out.trans (hb4.mono HB3.out.size))
    have HZ4 := Lib.hid ((hb4.block r HRL.out).trans HZ3.out)
    have HFF := Lib.hid (HF.out HS.out w4 w3.heap.size D vv cv l' HB3.out.size HB4.out hd hl')
    have HSZ := Lib.hid hb4.size
    clear t0 t1 hd hl' hb4
    go_wp2_with fail
    refine HFF.out.mono ?_
    rintro e w5 ⟨rfl, hK, hL, hbb⟩
    have HK := Lib.hid hK
    have HL := Lib.hid hL
    have HB5 : Hid (BO w.heap.size b w w5) := (BO.of_below HB4.out).trans ⟨hbb.os, hbb.tape, hbb.output, hbb.size, fun k hk hne => hbb.block k (Nat.lt_of_lt_of_le hk HB3.out.size) hne⟩
    have hz5 := (hbb.block r HRL.out HR.out.2.1).trans HZ4.out
    have HZ5 := Lib.hid hz5
    obtain ⟨q0, p0⟩ := cells_at hz5 0
    obtain ⟨q1, p1⟩ := cells_at hz5 1
    simp only [List.getElem?_toArray, List.getElem?_cons_zero, List.getElem?_cons_succ] at q0 q1
    clear hK hL hbb hz5 hrun
    by_cases he : e0 = 0
    · subst he
      obtain ⟨a', c', pv, l'', hd5, ra, rc, hm⟩ := HL.out rfl
      obtain ⟨d0, d1, d2, f0, f1, f2⟩ := dr_cells hd5
      have HRA := Lib.hid (row_besideB ra (noint2 HZ5.out) (chg2 w5 r a' c') (by rw [set_size, set_size]; exact Nat.le_refl _))
      have HRC := Lib.hid (row_besideC rc (noint2 HZ5.out) (chg2 w5 r a' c') (by rw [set_size, set_size]; exact Nat.le_refl _))
      have HM := Lib.hid hm
      obtain ⟨Pa', ca', rfl, _⟩ := ra.form
      obtain ⟨Pc', cc', rfl, _⟩ := rc.form
      obtain ⟨na', hna⟩ : ∃ n, s'.vals.length = n := ⟨_, rfl⟩
      obtain ⟨nc', hnc⟩ : ∃ n, l''.length = n := ⟨_, rfl⟩
      rw [hna] at d0 HRA HRC
      rw [hnc] at d1 HRA HRC
      clear hd5 ra rc hm hna hnc d2 f0 f1 f2
      go_wp2_with fail
      refine bodyPost_ret (v := .tuple #[.agg #[.slice Pa' na' ca', .slice Pc' nc' cc'], .int .i64 0]) (by simp [results, Tryz.results83, go_sem, q0, q1]) rfl (.inr (.inr ⟨HS.out, rfl, _, rfl, ⟨_, _, _, rfl, HRA.out, HRC.out, HM.out⟩, ?_, ?_⟩))
      · exact HKK.out _ _ r HK.out HR.out.1 (noint2 HZ5.out) (chg2 w5 r _ _) (by rw [set_size, set_size]; exact Nat.le_refl _)
      · exact HB5.out.trans (BO.of_below (((Below.refl _ _).setCell (p := ⟨r, 0, none⟩) HR.out.1 _).setCell (p := ⟨r, 1, none⟩) HR.out.1 _))
    · have t5 : (e0 != 0) = true := by simpa using he
      have HE := Lib.hid he
      clear he
      go_wp2_with fail
      refine bodyPost_ret (v := .tuple #[zS, .int .i64 e0]) (by simp [results, Tryz.results83, go_sem, zS, q0, q1]) rfl (.inr (.inl ⟨HS.out, HE.out, rfl, ?_, ?_⟩))
      · exact HKK.out _ _ r HK.out HR.out.1 (noint2 HZ5.out) (chg2 w5 r _ _) (by rw [set_size, set_size]; exact Nat.le_refl _)
      · exact HB5.out.trans (BO.of_below (((Below.refl _ _).setCell (p := ⟨r, 0, none⟩) HR.out.1 _).setCell (p := ⟨r, 1, none⟩) HR.out.1 _))
end Go.Proofs.YtlappkflnlbfcaaGreatDoor.Stk
end

section
/- The program's own calls of layer 9, walked: Push, Want, Open, Kill, Label. -/
namespace Go.Proofs.YtlappkflnlbfcaaGreatDoor.Stk
open Go.RowKit Row9
set_option maxRecDepth 100000
set_option maxHeartbeats 2000000
set_option linter.unusedVariables false
def pe (xs : List Int) : Int := chosen (xs.any noT) 1 0
def oe (xs : List Int) : Int := chosen (mayE xs) 0 1
theorem below2 (w : World) (a b : Obj) : Below w.heap.size w ((w.alloc a).alloc b) := (below_new w a).alloc (below_new w a).size b
theorem below3 (w : World) (a b c : Obj) : Below w.heap.size w (((w.alloc a).alloc b).alloc c) := (below2 w a b).alloc (below2 w a b).size c
theorem below4 (w : World) (a b c d : Obj) : Below w.heap.size w ((((w.alloc a).alloc b).alloc c).alloc d) := (below3 w a b c).alloc (below3 w a b c).size d
theorem mkf (fn : Fn) (first cap : Array Value) (w : World) : (Instr.makeFunc fn first cap).run Tryz.prog w = .ok (.func fn first cap) w := rfl
/-- How a call that hands back a stack ends. -/
def OpTold (r : Stk × Int) (w : World) (e : Ending) (w' : World) : Prop := (∃ v, e = .returned (.tuple #[v, .int .i64 r.2]) ∧ StIs elP w' v r.1) ∧ Below w.heap.size w w'
theorem zS_is (w : World) : StIs elP w zS none_ := StIs.none_ elP w
/-- What a change makes, by the plain words. -/
def made (s : Stk) (e0 : Int) (s' : Stk) : Stk × Int := if sane s = false then (none_, 1) else if e0 = 0 then (s', 0) else (none_, e0)
theorem ChTold.op {s s' : Stk} {e0 : Int} {K : World → Prop} {w w' : World} {e : Ending} (h : ChTold none s e0 s' K w e w') : OpTold (made s e0 s') w e w' := by
  unfold made
  rcases h with ⟨h1, h2, h3⟩ | ⟨h1, h2, h3, h4, h5⟩ | ⟨h1, h2, v, h3, h4, h5, h6⟩
  · rw [if_pos h1]
    exact ⟨⟨_, h2, zS_is _⟩, h3⟩
  · rw [if_neg (by rw [h1]; decide), if_neg h2]
    exact ⟨⟨_, h3, zS_is _⟩, h5.below⟩
  · subst h2
    rw [if_neg (by rw [h1]; decide), if_pos rfl]
    exact ⟨⟨v, h3, h4⟩, h6.below⟩
theorem pushed1 {B D p : Nat} {vv cv x : Value} {vals xs : List Int} {l : List CtV} {W : World} (h : Dr W B D vv cv vals l) (hx : Row elB W x xs) (hl : vals.length + xs.length ≤ 1000000) (hc : W.cell? ⟨p, 0, none⟩ = some x) :
    Calls Tryz.prog 167 #[.pointer (some ⟨D, 0, none⟩), .pointer (some ⟨p, 0, none⟩)] W fun e W' => e = .returned (.int .i64 (pe xs)) ∧ True ∧ (pe xs = 0 → Left W' D ⟨vals ++ xs, l.map (·.1)⟩) ∧ BO B none W W' := by
  have HP := Lib.hid (show Calls Tryz.prog 168 #[.pointer (some ⟨D, 0, none⟩), x] W (fun e w' => MadeTold D (pe xs) ⟨vals ++ xs, l.map (·.1)⟩ e w' ∧ Below B W w') from push_any h hx hl (Nat.le_trans h.hD (Nat.le_of_lt h.lt)))
  obtain ⟨P, c, rfl, _⟩ := hx.form
  obtain ⟨n, hn⟩ : ∃ n, xs.length = n := ⟨_, rfl⟩
  rw [hn] at hc HP
  generalize pe xs = e0 at *
  clear h hx hl hn
  go_enter Tryz.func167, Tryz.ntmps167
  go_wp2_with fail
  refine HP.out.mono ?_
  rintro e w1 ⟨⟨rfl, hL⟩, hb⟩
  have HL := Lib.hid hL
  have HB := Lib.hid hb
  clear hL hb
  go_wp2_with fail
  exact bodyPost_ret (v := .int .i64 e0) (by simp [results, Tryz.results167, go_sem]) rfl ⟨rfl, trivial, HL.out, BO.of_below HB.out⟩
def we (o : Option (List Int)) : Int := match o with
  | none => 5
  | some _ => 0
theorem wanted1 {B D p : Nat} {vv cv x : Value} {vals xs : List Int} {l : List CtV} {W : World} (h : Dr W B D vv cv vals l) (hx : ∀ W', But D W W' → Row elB W' x xs) (hl : vals.length ≤ 1000000) (hxl : xs.length ≤ 1000000) (hc : W.cell? ⟨p, 0, none⟩ = some x) :
    Calls Tryz.prog 169 #[.pointer (some ⟨D, 0, none⟩), .pointer (some ⟨p, 0, none⟩)] W fun e W' => e = .returned (.int .i64 (we (wantV (l.map (·.1)).getLast? vals xs.reverse))) ∧ True ∧ (we (wantV (l.map (·.1)).getLast? vals xs.reverse) = 0 → Left W' D ⟨(wantV (l.map (·.1)).getLast? vals xs.reverse).getD [], l.map (·.1)⟩) ∧ BO B none W W' := by
  have HP := Lib.hid (want_any h hl hx hxl)
  have HD := Lib.hid h.hD
  have HLt := Lib.hid h.lt
  obtain ⟨P, c, rfl, _⟩ := (hx W (But.refl _ _)).form
  obtain ⟨n, hn⟩ : ∃ n, xs.length = n := ⟨_, rfl⟩
  rw [hn] at hc HP
  generalize wantV (l.map (·.1)).getLast? vals xs.reverse = o at *
  clear h hx hl hxl hn
  go_enter Tryz.func169, Tryz.ntmps169
  go_wp2_with fail
  refine HP.out.mono ?_
  rintro e w1 hw
  cases o with
  | none =>
    obtain ⟨rfl, hb⟩ := hw
    have HB := Lib.hid (hb.below HD.out HLt.out)
    clear hb
    go_wp2_with fail
    exact bodyPost_ret (v := .int .i64 5) (by simp [results, Tryz.results169, go_sem]) rfl ⟨rfl, trivial, (fun h => absurd h (by decide)), BO.of_below HB.out⟩
  | some vs =>
    obtain ⟨vv1, rfl, hd, hb⟩ := hw
    have HB := Lib.hid (hb.below HD.out HLt.out)
    have HL := Lib.hid hd.left
    clear hb hd
    go_wp2_with fail
    exact bodyPost_ret (v := .int .i64 0) (by simp [results, Tryz.results169, go_sem]) rfl ⟨rfl, trivial, (fun _ => HL.out), BO.of_below HB.out⟩
theorem opened1 {B D p q : Nat} {vv cv x : Value} {op : Int} {vals xs : List Int} {l : List CtV} {W : World} (h : Dr W B D vv cv vals l) (hx : Row elB W x xs) (hop : w64 op) (hl : vals.length ≤ 1000000) (hll : l.length + 1 ≤ 1000000) (hxl : xs.length ≤ 1000000) (hc : W.cell? ⟨p, 0, none⟩ = some (.int .i64 op)) (hc2 : W.cell? ⟨q, 0, none⟩ = some x) :
    Calls Tryz.prog 143 #[.pointer (some ⟨D, 0, none⟩), .pointer (some ⟨p, 0, none⟩), .pointer (some ⟨q, 0, none⟩)] W fun e W' => e = .returned (.int .i64 (oe xs)) ∧ True ∧ (oe xs = 0 → Left W' D ⟨vals, l.map (·.1) ++ [⟨op, xs, vals.length, false⟩]⟩) ∧ BO B none W W' := by
  have HP := Lib.hid (show Calls Tryz.prog 144 #[.pointer (some ⟨D, 0, none⟩), .int .i64 op, x] W (fun e w' => MadeTold D (oe xs) ⟨vals, l.map (·.1) ++ [⟨op, xs, vals.length, false⟩]⟩ e w' ∧ Below B W w') from open_any h hx hop hl hll hxl (Nat.le_trans h.hD (Nat.le_of_lt h.lt)))
  obtain ⟨P, c, rfl, _⟩ := hx.form
  obtain ⟨n, hn⟩ : ∃ n, xs.length = n := ⟨_, rfl⟩
  rw [hn] at hc2 HP
  generalize oe xs = e0 at *
  clear h hx hl hll hxl hn hop
  go_enter Tryz.func143, Tryz.ntmps143
  go_wp2_with fail
  refine HP.out.mono ?_
  rintro e w1 ⟨⟨rfl, hL⟩, hb⟩
  have HL := Lib.hid hL
  have HB := Lib.hid hb
  clear hL hb
  go_wp2_with fail
  exact bodyPost_ret (v := .int .i64 e0) (by simp [results, Tryz.results143, go_sem]) rfl ⟨rfl, trivial, HL.out, BO.of_below HB.out⟩
def ke (cs : List Ctl) : Int := match cs.getLast? with
  | none => 5
  | some _ => 0
def kh (cs : List Ctl) : Nat := match cs.getLast? with
  | none => 0
  | some c => c.ht.toNat
def kd (cs : List Ctl) : List Ctl := match cs.getLast? with
  | none => []
  | some c => [{ c with dead := true }]
theorem killed1 {B D : Nat} {vv cv : Value} {vals : List Int} {l : List CtV} {W : World} (h : Dr W B D vv cv vals l) (hs : sane ⟨vals, l.map (·.1)⟩ = true) :
    Calls Tryz.prog 166 (#[.pointer (some ⟨D, 0, none⟩)] ++ #[]) W fun e W' => e = .returned (.int .i64 (ke (l.map (·.1)))) ∧ True ∧ (ke (l.map (·.1)) = 0 → Left W' D ⟨vals.take (kh (l.map (·.1))), (l.map (·.1)).dropLast ++ kd (l.map (·.1))⟩) ∧ BO B none W W' := by
  cases hp : l.getLast? with
  | none =>
    have h0 : l = [] := List.getLast?_eq_none_iff.1 hp
    subst h0
    exact (kill_none h ⟨[], []⟩).mono fun e w' ⟨⟨h1, _⟩, h3⟩ => ⟨h1, trivial, (fun h => absurd h (by decide)), BO.of_below h3⟩
  | some p =>
    obtain ⟨q, rfl⟩ : ∃ q, l = q ++ [p] := List.getLast?_eq_some_iff.1 hp
    have hf := (sane_facts hs).1 p.1 (by simp)
    obtain ⟨k, hk⟩ : ∃ k : Nat, p.1.ht = (k : Int) := ⟨p.1.ht.toNat, by omega⟩
    have e1 : ((q ++ [p]).map (·.1)).getLast? = some p.1 := by simp
    have e2 : ((q ++ [p]).map (·.1)).dropLast = q.map (·.1) := by simp
    unfold ke kh kd
    rw [e1, e2]
    have e3 : p.1.ht.toNat = k := by omega
    simp only [e3]
    exact (kill_some h hk (by have := hf.2.1; simp only at this; omega) (Nat.le_trans h.hD (Nat.le_of_lt h.lt))).mono fun e w' ⟨⟨h1, h2⟩, h3⟩ => ⟨h1, trivial, (fun _ => h2 rfl), BO.of_below h3⟩
/-- A stack that is stored in a variable of two cells. -/
theorem StIs.store2 {w : World} {r : Nat} {v : Value} {s : Stk} (h : StIs elP w v s) (hz : w.heap[r]? = some (.cells #[.slice none 0 0, .slice none 0 0] 39 (0, 0))) :
    ∃ P n c Q m d, v = .agg #[.slice P n c, .slice Q m d] ∧ StIs elP ((w.setCell ⟨r, 0, none⟩ (.slice P n c)).setCell ⟨r, 1, none⟩ (.slice Q m d)) (.agg #[.slice P n c, .slice Q m d]) s := by
  obtain ⟨a, c, l, rfl, ha, hc, hl⟩ := h
  obtain ⟨P, k, rfl, _⟩ := ha.form
  obtain ⟨Q, d, rfl, _⟩ := hc.form
  refine ⟨_, _, _, _, _, _, rfl, _, _, l, rfl, row_besideB ha (noint2 hz) (chg2 w r _ _) (by rw [set_size, set_size]; exact Nat.le_refl _), row_besideC hc (noint2 hz) (chg2 w r _ _) (by rw [set_size, set_size]; exact Nat.le_refl _), hl⟩
theorem Push_any {a c : Value} {vals : List Int} {l : List CtV} {w : World} {x : Value} {xs : List Int} (ha : Row elB w a vals) (hc : Row elP w c l) (hx : Row elB w x xs) (hxl : xs.length ≤ 400000) (hvl : vals.length ≤ 400000) (hll : l.length ≤ 400000) :
    Calls Tryz.prog 150 #[.agg #[a, c], x] w (OpTold (made ⟨vals, l.map (·.1)⟩ (pe xs) (⟨vals ++ xs, l.map (·.1)⟩)) w) := by
  have hmf := mkf
  have HA := Lib.hid ha
  have HC := Lib.hid hc
  have HL := Lib.hid hvl
  have HLL := Lib.hid hll
  obtain ⟨Pa, ca, rfl, y1, y2⟩ := ha.form
  obtain ⟨Pc, cc_, rfl, y3, y4⟩ := hc.form
  have HX := Lib.hid hx
  have HXL := Lib.hid hxl
  obtain ⟨Px, cx, rfl, y5, y6⟩ := hx.form
  obtain ⟨nx, hnx⟩ : ∃ n, xs.length = n := ⟨_, rfl⟩
  have HNX := Lib.hid hnx
  rw [hnx] at HX ⊢
  obtain ⟨nv, hnv⟩ : ∃ n, vals.length = n := ⟨_, rfl⟩
  obtain ⟨nl, hnl⟩ : ∃ n, l.length = n := ⟨_, rfl⟩
  have HNV := Lib.hid hnv
  have HNL := Lib.hid hnl
  obtain ⟨s, hs⟩ : ∃ s : Stk, (⟨vals, l.map (·.1)⟩ : Stk) = s := ⟨_, rfl⟩
  obtain ⟨s', hs'⟩ : ∃ s : Stk, (⟨vals ++ xs, l.map (·.1)⟩) = s := ⟨_, rfl⟩
  obtain ⟨e0, he0⟩ : ∃ e0 : Int, (pe xs) = e0 := ⟨_, rfl⟩
  rw [hs, hs', he0]
  obtain ⟨⟨ms, ee⟩, hmm⟩ : ∃ mm, made s e0 s' = mm := ⟨_, rfl⟩
  rw [hmm]
  have HMM := Lib.hid hmm
  rw [hnv] at HA ⊢
  rw [hnl] at HC ⊢
  have HS := Lib.hid hs
  have HS' := Lib.hid hs'
  have HE := Lib.hid he0
  have HB3 := Lib.hid (below3 w (.cells #[.slice Pa nv ca, .slice Pc nl cc_] 39) (.cells #[.slice Px nx cx] 25) (.cells #[.slice none 0 0, .slice none 0 0] 39))
  have HT : Hid ((((w.alloc (.cells #[.slice Pa nv ca, .slice Pc nl cc_] 39)).alloc (.cells #[.slice Px nx cx] 25)).alloc (.cells #[.slice none 0 0, .slice none 0 0] 39)).cell? ⟨w.heap.size + 1, 0, none⟩ = some (.slice Px nx cx)) := by
    show _ = _
    rw [(below_new ((w.alloc (.cells #[.slice Pa nv ca, .slice Pc nl cc_] 39)).alloc (.cells #[.slice Px nx cx] 25)) _).cell (p := ⟨w.heap.size + 1, 0, none⟩) (by simp only [size_new]; omega)]
    have h := (cells_at (heap_new (w.alloc (.cells #[.slice Pa nv ca, .slice Pc nl cc_] 39)) (.cells #[.slice Px nx cx] 25)) 0).1
    rw [size_new] at h
    exact h
  have HZ := Lib.hid (heap_new (((w.alloc (.cells #[.slice Pa nv ca, .slice Pc nl cc_] 39)).alloc (.cells #[.slice Px nx cx] 25))) (.cells #[.slice none 0 0, .slice none 0 0] 39))
  simp only [size_new] at HZ
  clear y1 y2 y3 y4 ha hc hvl hll hs hs' hmm hnv hnl he0 hx hxl hnx y5 y6
  go_enter Tryz.func150, Tryz.ntmps150
  go_wp2_with fail
  generalize ((w.alloc (.cells #[.slice Pa nv ca, .slice Pc nl cc_] 39)).alloc (.cells #[.slice Px nx cx] 25)).alloc (.cells #[.slice none 0 0, .slice none 0 0] 39) = w3 at *
  obtain ⟨r, hr⟩ : ∃ r, w.heap.size + 1 + 1 = r := ⟨_, rfl⟩
  have HR : Hid (w.heap.size ≤ r) := by show _ ≤ _; omega
  rw [hr] at HZ
  simp only [hr]
  clear hr
  have HCh : Hid (Calls Tryz.prog 83 #[.agg #[.slice Pa nv ca, .slice Pc nl cc_], .func (.func 167) #[] #[.pointer (some ⟨w.heap.size + 1, 0, none⟩)]] w3 (OpTold (made s e0 s') w3)) := by
    show Calls _ _ _ _ _
    have h0 := changed_any (b := none) (e0 := e0) (s' := s') (K := fun _ => True) (caps := #[.pointer (some ⟨w.heap.size + 1, 0, none⟩)]) (HA.out.keep HB3.out) (HC.out.keep HB3.out) (by have := HL.out; omega) (by have := HLL.out; omega) (k := 167) ⟨_, Tryz.func167, by kernel_rfl, by kernel_rfl⟩ (fun _ _ _ _ _ _ _ _ => trivial) (fun hsn W B D vv cv l' hB hW hd hl' => by
      have hx2 := HX.out.keep (HB3.out.trans (hW.mono HB3.out.size))
      have hc2 := (hW.cell (p := ⟨w.heap.size + 1, 0, none⟩) (World.block_lt_of_cell? w3 _ HT.out)).trans HT.out
      rw [← HE.out, ← HS'.out, ← hl']
      exact pushed1 hd hx2 (by have := HL.out; have := HXL.out; omega) hc2) (fun _ _ h => by cases h)
    rw [HS.out] at h0
    exact h0.mono fun _ _ h => h.op
  rw [HMM.out] at HCh
  refine HCh.out.mono ?_
  rintro e w4 ⟨⟨v, rfl, hv⟩, hb4⟩
  have hz4 := (hb4.block r (lt_of_heap HZ.out)).trans HZ.out
  have HB4 := Lib.hid (HB3.out.trans (hb4.mono HB3.out.size))
  obtain ⟨P1, n1, c1, P2, n2, c2, rfl, hv2⟩ := hv.store2 hz4
  have HV := Lib.hid hv2
  obtain ⟨q0, p0⟩ := cells_at hz4 0
  obtain ⟨q1, p1⟩ := cells_at hz4 1
  simp only [List.getElem?_toArray, List.getElem?_cons_zero, List.getElem?_cons_succ] at q0 q1
  clear hz4 hb4 hv hv2 HCh
  go_wp2_with fail
  refine bodyPost_ret (v := .tuple #[.agg #[.slice P1 n1 c1, .slice P2 n2 c2], .int .i64 ee]) (by simp [results, Tryz.results150, go_sem, q0, q1]) rfl ⟨⟨_, rfl, HV.out⟩, ?_⟩
  exact (HB4.out.setCell (p := ⟨r, 0, none⟩) HR.out _).setCell (p := ⟨r, 1, none⟩) HR.out _
theorem Want_any {a c : Value} {vals : List Int} {l : List CtV} {w : World} {x : Value} {xs : List Int} (ha : Row elB w a vals) (hc : Row elP w c l) (hx : Row elB w x xs) (hxl : xs.length ≤ 400000) (hvl : vals.length ≤ 400000) (hll : l.length ≤ 400000) :
    Calls Tryz.prog 152 #[.agg #[a, c], x] w (OpTold (made ⟨vals, l.map (·.1)⟩ (we (wantV (l.map (·.1)).getLast? vals xs.reverse)) (⟨(wantV (l.map (·.1)).getLast? vals xs.reverse).getD [], l.map (·.1)⟩)) w) := by
  have hmf := mkf
  have HA := Lib.hid ha
  have HC := Lib.hid hc
  have HL := Lib.hid hvl
  have HLL := Lib.hid hll
  obtain ⟨Pa, ca, rfl, y1, y2⟩ := ha.form
  obtain ⟨Pc, cc_, rfl, y3, y4⟩ := hc.form
  have HX := Lib.hid hx
  have HXL := Lib.hid hxl
  obtain ⟨Px, cx, rfl, y5, y6⟩ := hx.form
  obtain ⟨nx, hnx⟩ : ∃ n, xs.length = n := ⟨_, rfl⟩
  have HNX := Lib.hid hnx
  rw [hnx] at HX ⊢
  obtain ⟨nv, hnv⟩ : ∃ n, vals.length = n := ⟨_, rfl⟩
  obtain ⟨nl, hnl⟩ : ∃ n, l.length = n := ⟨_, rfl⟩
  have HNV := Lib.hid hnv
  have HNL := Lib.hid hnl
  obtain ⟨s, hs⟩ : ∃ s : Stk, (⟨vals, l.map (·.1)⟩ : Stk) = s := ⟨_, rfl⟩
  obtain ⟨s', hs'⟩ : ∃ s : Stk, (⟨(wantV (l.map (·.1)).getLast? vals xs.reverse).getD [], l.map (·.1)⟩) = s := ⟨_, rfl⟩
  obtain ⟨e0, he0⟩ : ∃ e0 : Int, (we (wantV (l.map (·.1)).getLast? vals xs.reverse)) = e0 := ⟨_, rfl⟩
  rw [hs, hs', he0]
  obtain ⟨⟨ms, ee⟩, hmm⟩ : ∃ mm, made s e0 s' = mm := ⟨_, rfl⟩
  rw [hmm]
  have HMM := Lib.hid hmm
  rw [hnv] at HA ⊢
  rw [hnl] at HC ⊢
  have HS := Lib.hid hs
  have HS' := Lib.hid hs'
  have HE := Lib.hid he0
  have HB3 := Lib.hid (below3 w (.cells #[.slice Pa nv ca, .slice Pc nl cc_] 39) (.cells #[.slice Px nx cx] 25) (.cells #[.slice none 0 0, .slice none 0 0] 39))
  have HT : Hid ((((w.alloc (.cells #[.slice Pa nv ca, .slice Pc nl cc_] 39)).alloc (.cells #[.slice Px nx cx] 25)).alloc (.cells #[.slice none 0 0, .slice none 0 0] 39)).cell? ⟨w.heap.size + 1, 0, none⟩ = some (.slice Px nx cx)) := by
    show _ = _
    rw [(below_new ((w.alloc (.cells #[.slice Pa nv ca, .slice Pc nl cc_] 39)).alloc (.cells #[.slice Px nx cx] 25)) _).cell (p := ⟨w.heap.size + 1, 0, none⟩) (by simp only [size_new]; omega)]
    have h := (cells_at (heap_new (w.alloc (.cells #[.slice Pa nv ca, .slice Pc nl cc_] 39)) (.cells #[.slice Px nx cx] 25)) 0).1
    rw [size_new] at h
    exact h
  have HZ := Lib.hid (heap_new (((w.alloc (.cells #[.slice Pa nv ca, .slice Pc nl cc_] 39)).alloc (.cells #[.slice Px nx cx] 25))) (.cells #[.slice none 0 0, .slice none 0 0] 39))
  simp only [size_new] at HZ
  clear y1 y2 y3 y4 ha hc hvl hll hs hs' hmm hnv hnl he0 hx hxl hnx y5 y6
  go_enter Tryz.func152, Tryz.ntmps152
  go_wp2_with fail
  generalize ((w.alloc (.cells #[.slice Pa nv ca, .slice Pc nl cc_] 39)).alloc (.cells #[.slice Px nx cx] 25)).alloc (.cells #[.slice none 0 0, .slice none 0 0] 39) = w3 at *
  obtain ⟨r, hr⟩ : ∃ r, w.heap.size + 1 + 1 = r := ⟨_, rfl⟩
  have HR : Hid (w.heap.size ≤ r) := by show _ ≤ _; omega
  rw [hr] at HZ
  simp only [hr]
  clear hr
  have HCh : Hid (Calls Tryz.prog 83 #[.agg #[.slice Pa nv ca, .slice Pc nl cc_], .func (.func 169) #[] #[.pointer (some ⟨w.heap.size + 1, 0, none⟩)]] w3 (OpTold (made s e0 s') w3)) := by
    show Calls _ _ _ _ _
    have h0 := changed_any (b := none) (e0 := e0) (s' := s') (K := fun _ => True) (caps := #[.pointer (some ⟨w.heap.size + 1, 0, none⟩)]) (HA.out.keep HB3.out) (HC.out.keep HB3.out) (by have := HL.out; omega) (by have := HLL.out; omega) (k := 169) ⟨_, Tryz.func169, by kernel_rfl, by kernel_rfl⟩ (fun _ _ _ _ _ _ _ _ => trivial) (fun hsn W B D vv cv l' hB hW hd hl' => by
      have hx2 : ∀ W', But D W W' → Row elB W' (.slice Px nx cx) xs := fun W' h' => HX.out.keep (HB3.out.trans ((hW.trans (h'.below (Nat.le_trans hB hd.hD) hd.lt)).mono HB3.out.size))
      have hc2 := (hW.cell (p := ⟨w.heap.size + 1, 0, none⟩) (World.block_lt_of_cell? w3 _ HT.out)).trans HT.out
      rw [← HE.out, ← HS'.out, ← hl']
      exact wanted1 hd hx2 (by have := HL.out; omega) (by have := HXL.out; omega) hc2) (fun _ _ h => by cases h)
    rw [HS.out] at h0
    exact h0.mono fun _ _ h => h.op
  rw [HMM.out] at HCh
  refine HCh.out.mono ?_
  rintro e w4 ⟨⟨v, rfl, hv⟩, hb4⟩
  have hz4 := (hb4.block r (lt_of_heap HZ.out)).trans HZ.out
  have HB4 := Lib.hid (HB3.out.trans (hb4.mono HB3.out.size))
  obtain ⟨P1, n1, c1, P2, n2, c2, rfl, hv2⟩ := hv.store2 hz4
  have HV := Lib.hid hv2
  obtain ⟨q0, p0⟩ := cells_at hz4 0
  obtain ⟨q1, p1⟩ := cells_at hz4 1
  simp only [List.getElem?_toArray, List.getElem?_cons_zero, List.getElem?_cons_succ] at q0 q1
  clear hz4 hb4 hv hv2 HCh
  go_wp2_with fail
  refine bodyPost_ret (v := .tuple #[.agg #[.slice P1 n1 c1, .slice P2 n2 c2], .int .i64 ee]) (by simp [results, Tryz.results152, go_sem, q0, q1]) rfl ⟨⟨_, rfl, HV.out⟩, ?_⟩
  exact (HB4.out.setCell (p := ⟨r, 0, none⟩) HR.out _).setCell (p := ⟨r, 1, none⟩) HR.out _
theorem Open_any {a c : Value} {vals : List Int} {l : List CtV} {w : World} {x : Value} {xs : List Int} {op : Int} (ha : Row elB w a vals) (hc : Row elP w c l) (hx : Row elB w x xs) (hxl : xs.length ≤ 400000) (hop : w64 op) (hvl : vals.length ≤ 400000) (hll : l.length ≤ 400000) :
    Calls Tryz.prog 111 #[.agg #[a, c], .int .i64 op, x] w (OpTold (made ⟨vals, l.map (·.1)⟩ (oe xs) (⟨vals, l.map (·.1) ++ [⟨op, xs, vals.length, false⟩]⟩)) w) := by
  have hmf := mkf
  have HA := Lib.hid ha
  have HC := Lib.hid hc
  have HL := Lib.hid hvl
  have HLL := Lib.hid hll
  obtain ⟨Pa, ca, rfl, y1, y2⟩ := ha.form
  obtain ⟨Pc, cc_, rfl, y3, y4⟩ := hc.form
  have HX := Lib.hid hx
  have HXL := Lib.hid hxl
  have HOP := Lib.hid hop
  obtain ⟨Px, cx, rfl, y5, y6⟩ := hx.form
  obtain ⟨nx, hnx⟩ : ∃ n, xs.length = n := ⟨_, rfl⟩
  have HNX := Lib.hid hnx
  rw [hnx] at HX ⊢
  obtain ⟨nv, hnv⟩ : ∃ n, vals.length = n := ⟨_, rfl⟩
  obtain ⟨nl, hnl⟩ : ∃ n, l.length = n := ⟨_, rfl⟩
  have HNV := Lib.hid hnv
  have HNL := Lib.hid hnl
  obtain ⟨s, hs⟩ : ∃ s : Stk, (⟨vals, l.map (·.1)⟩ : Stk) = s := ⟨_, rfl⟩
  obtain ⟨s', hs'⟩ : ∃ s : Stk, (⟨vals, l.map (·.1) ++ [⟨op, xs, vals.length, false⟩]⟩) = s := ⟨_, rfl⟩
  obtain ⟨e0, he0⟩ : ∃ e0 : Int, (oe xs) = e0 := ⟨_, rfl⟩
  rw [hs, hs', he0]
  obtain ⟨⟨ms, ee⟩, hmm⟩ : ∃ mm, made s e0 s' = mm := ⟨_, rfl⟩
  rw [hmm]
  have HMM := Lib.hid hmm
  rw [hnv] at HA ⊢
  rw [hnl] at HC ⊢
  have HS := Lib.hid hs
  have HS' := Lib.hid hs'
  have HE := Lib.hid he0
  have HB3 := Lib.hid (below4 w (.cells #[.slice Pa nv ca, .slice Pc nl cc_] 39) (.cells #[.int .i64 op] 3) (.cells #[.slice Px nx cx] 25) (.cells #[.slice none 0 0, .slice none 0 0] 39))
  have HT : Hid (((((w.alloc (.cells #[.slice Pa nv ca, .slice Pc nl cc_] 39)).alloc (.cells #[.int .i64 op] 3)).alloc (.cells #[.slice Px nx cx] 25)).alloc (.cells #[.slice none 0 0, .slice none 0 0] 39)).cell? ⟨w.heap.size + 1, 0, none⟩ = some (.int .i64 op) ∧ ((((w.alloc (.cells #[.slice Pa nv ca, .slice Pc nl cc_] 39)).alloc (.cells #[.int .i64 op] 3)).alloc (.cells #[.slice Px nx cx] 25)).alloc (.cells #[.slice none 0 0, .slice none 0 0] 39)).cell? ⟨w.heap.size + 1 + 1, 0, none⟩ = some (.slice Px nx cx)) := by
    refine ⟨?_, ?_⟩
    · rw [(below2 ((w.alloc (.cells #[.slice Pa nv ca, .slice Pc nl cc_] 39)).alloc (.cells #[.int .i64 op] 3)) _ _).cell (p := ⟨w.heap.size + 1, 0, none⟩) (by simp only [size_new]; omega)]
      have h := (cells_at (heap_new (w.alloc (.cells #[.slice Pa nv ca, .slice Pc nl cc_] 39)) (.cells #[.int .i64 op] 3)) 0).1
      rw [size_new] at h
      exact h
    · rw [(below_new (((w.alloc (.cells #[.slice Pa nv ca, .slice Pc nl cc_] 39)).alloc (.cells #[.int .i64 op] 3)).alloc (.cells #[.slice Px nx cx] 25)) _).cell (p := ⟨w.heap.size + 1 + 1, 0, none⟩) (by simp only [size_new]; omega)]
      have h := (cells_at (heap_new ((w.alloc (.cells #[.slice Pa nv ca, .slice Pc nl cc_] 39)).alloc (.cells #[.int .i64 op] 3)) (.cells #[.slice Px nx cx] 25)) 0).1
      rw [size_new, size_new] at h
      exact h
  have HZ := Lib.hid (heap_new ((((w.alloc (.cells #[.slice Pa nv ca, .slice Pc nl cc_] 39)).alloc (.cells #[.int .i64 op] 3)).alloc (.cells #[.slice Px nx cx] 25))) (.cells #[.slice none 0 0, .slice none 0 0] 39))
  simp only [size_new] at HZ
  clear y1 y2 y3 y4 ha hc hvl hll hs hs' hmm hnv hnl he0 hx hxl hop hnx y5 y6
  go_enter Tryz.func111, Tryz.ntmps111
  go_wp2_with fail
  generalize (((w.alloc (.cells #[.slice Pa nv ca, .slice Pc nl cc_] 39)).alloc (.cells #[.int .i64 op] 3)).alloc (.cells #[.slice Px nx cx] 25)).alloc (.cells #[.slice none 0 0, .slice none 0 0] 39) = w3 at *
  obtain ⟨r, hr⟩ : ∃ r, w.heap.size + 1 + 1 + 1 = r := ⟨_, rfl⟩
  have HR : Hid (w.heap.size ≤ r) := by show _ ≤ _; omega
  rw [hr] at HZ
  simp only [hr]
  clear hr
  have HCh : Hid (Calls Tryz.prog 83 #[.agg #[.slice Pa nv ca, .slice Pc nl cc_], .func (.func 143) #[] #[.pointer (some ⟨w.heap.size + 1, 0, none⟩), .pointer (some ⟨w.heap.size + 1 + 1, 0, none⟩)]] w3 (OpTold (made s e0 s') w3)) := by
    show Calls _ _ _ _ _
    have h0 := changed_any (b := none) (e0 := e0) (s' := s') (K := fun _ => True) (caps := #[.pointer (some ⟨w.heap.size + 1, 0, none⟩), .pointer (some ⟨w.heap.size + 1 + 1, 0, none⟩)]) (HA.out.keep HB3.out) (HC.out.keep HB3.out) (by have := HL.out; omega) (by have := HLL.out; omega) (k := 143) ⟨_, Tryz.func143, by kernel_rfl, by kernel_rfl⟩ (fun _ _ _ _ _ _ _ _ => trivial) (fun hsn W B D vv cv l' hB hW hd hl' => by
      have hx2 := HX.out.keep (HB3.out.trans (hW.mono HB3.out.size))
      have hc1 := (hW.cell (p := ⟨w.heap.size + 1, 0, none⟩) (World.block_lt_of_cell? w3 _ HT.out.1)).trans HT.out.1
      have hc2 := (hW.cell (p := ⟨w.heap.size + 1 + 1, 0, none⟩) (World.block_lt_of_cell? w3 _ HT.out.2)).trans HT.out.2
      have hll' : l'.length = l.length := by have := congrArg List.length hl'; simpa using this
      rw [← HE.out, ← HS'.out, ← hl']
      exact opened1 hd hx2 HOP.out (by have := HL.out; omega) (by have := HLL.out; omega) (by have := HXL.out; omega) hc1 hc2) (fun _ _ h => by cases h)
    rw [HS.out] at h0
    exact h0.mono fun _ _ h => h.op
  rw [HMM.out] at HCh
  refine HCh.out.mono ?_
  rintro e w4 ⟨⟨v, rfl, hv⟩, hb4⟩
  have hz4 := (hb4.block r (lt_of_heap HZ.out)).trans HZ.out
  have HB4 := Lib.hid (HB3.out.trans (hb4.mono HB3.out.size))
  obtain ⟨P1, n1, c1, P2, n2, c2, rfl, hv2⟩ := hv.store2 hz4
  have HV := Lib.hid hv2
  obtain ⟨q0, p0⟩ := cells_at hz4 0
  obtain ⟨q1, p1⟩ := cells_at hz4 1
  simp only [List.getElem?_toArray, List.getElem?_cons_zero, List.getElem?_cons_succ] at q0 q1
  clear hz4 hb4 hv hv2 HCh
  go_wp2_with fail
  refine bodyPost_ret (v := .tuple #[.agg #[.slice P1 n1 c1, .slice P2 n2 c2], .int .i64 ee]) (by simp [results, Tryz.results111, go_sem, q0, q1]) rfl ⟨⟨_, rfl, HV.out⟩, ?_⟩
  exact (HB4.out.setCell (p := ⟨r, 0, none⟩) HR.out _).setCell (p := ⟨r, 1, none⟩) HR.out _
theorem Kill_any {a c : Value} {vals : List Int} {l : List CtV} {w : World} (ha : Row elB w a vals) (hc : Row elP w c l) (hvl : vals.length ≤ 400000) (hll : l.length ≤ 400000) :
    Calls Tryz.prog 149 #[.agg #[a, c]] w (OpTold (made ⟨vals, l.map (·.1)⟩ (ke (l.map (·.1))) (⟨vals.take (kh (l.map (·.1))), (l.map (·.1)).dropLast ++ kd (l.map (·.1))⟩)) w) := by
  have hmf := mkf
  have HA := Lib.hid ha
  have HC := Lib.hid hc
  have HL := Lib.hid hvl
  have HLL := Lib.hid hll
  obtain ⟨Pa, ca, rfl, y1, y2⟩ := ha.form
  obtain ⟨Pc, cc_, rfl, y3, y4⟩ := hc.form
  obtain ⟨nv, hnv⟩ : ∃ n, vals.length = n := ⟨_, rfl⟩
  obtain ⟨nl, hnl⟩ : ∃ n, l.length = n := ⟨_, rfl⟩
  have HNV := Lib.hid hnv
  have HNL := Lib.hid hnl
  obtain ⟨s, hs⟩ : ∃ s : Stk, (⟨vals, l.map (·.1)⟩ : Stk) = s := ⟨_, rfl⟩
  obtain ⟨s', hs'⟩ : ∃ s : Stk, (⟨vals.take (kh (l.map (·.1))), (l.map (·.1)).dropLast ++ kd (l.map (·.1))⟩) = s := ⟨_, rfl⟩
  obtain ⟨e0, he0⟩ : ∃ e0 : Int, (ke (l.map (·.1))) = e0 := ⟨_, rfl⟩
  rw [hs, hs', he0]
  obtain ⟨⟨ms, ee⟩, hmm⟩ : ∃ mm, made s e0 s' = mm := ⟨_, rfl⟩
  rw [hmm]
  have HMM := Lib.hid hmm
  rw [hnv] at HA ⊢
  rw [hnl] at HC ⊢
  have HS := Lib.hid hs
  have HS' := Lib.hid hs'
  have HE := Lib.hid he0
  have HB3 := Lib.hid (below2 w (.cells #[.slice Pa nv ca, .slice Pc nl cc_] 39) (.cells #[.slice none 0 0, .slice none 0 0] 39))
  have HZ := Lib.hid (heap_new ((w.alloc (.cells #[.slice Pa nv ca, .slice Pc nl cc_] 39))) (.cells #[.slice none 0 0, .slice none 0 0] 39))
  simp only [size_new] at HZ
  clear y1 y2 y3 y4 ha hc hvl hll hs hs' hmm hnv hnl he0
  go_enter Tryz.func149, Tryz.ntmps149
  go_wp2_with fail
  generalize (w.alloc (.cells #[.slice Pa nv ca, .slice Pc nl cc_] 39)).alloc (.cells #[.slice none 0 0, .slice none 0 0] 39) = w3 at *
  obtain ⟨r, hr⟩ : ∃ r, w.heap.size + 1 = r := ⟨_, rfl⟩
  have HR : Hid (w.heap.size ≤ r) := by show _ ≤ _; omega
  rw [hr] at HZ
  simp only [hr]
  clear hr
  have HCh : Hid (Calls Tryz.prog 83 #[.agg #[.slice Pa nv ca, .slice Pc nl cc_], .func (.func 166) #[] #[]] w3 (OpTold (made s e0 s') w3)) := by
    show Calls _ _ _ _ _
    have h0 := changed_any (b := none) (e0 := e0) (s' := s') (K := fun _ => True) (caps := #[]) (HA.out.keep HB3.out) (HC.out.keep HB3.out) (by have := HL.out; omega) (by have := HLL.out; omega) (k := 166) ⟨_, Tryz.func166, by kernel_rfl, by kernel_rfl⟩ (fun _ _ _ _ _ _ _ _ => trivial) (fun hsn W B D vv cv l' hB hW hd hl' => by
      rw [← HE.out, ← HS'.out, ← hl']
      exact killed1 hd (by rw [hl']; exact hsn)) (fun _ _ h => by cases h)
    rw [HS.out] at h0
    exact h0.mono fun _ _ h => h.op
  rw [HMM.out] at HCh
  refine HCh.out.mono ?_
  rintro e w4 ⟨⟨v, rfl, hv⟩, hb4⟩
  have hz4 := (hb4.block r (lt_of_heap HZ.out)).trans HZ.out
  have HB4 := Lib.hid (HB3.out.trans (hb4.mono HB3.out.size))
  obtain ⟨P1, n1, c1, P2, n2, c2, rfl, hv2⟩ := hv.store2 hz4
  have HV := Lib.hid hv2
  obtain ⟨q0, p0⟩ := cells_at hz4 0
  obtain ⟨q1, p1⟩ := cells_at hz4 1
  simp only [List.getElem?_toArray, List.getElem?_cons_zero, List.getElem?_cons_succ] at q0 q1
  clear hz4 hb4 hv hv2 HCh
  go_wp2_with fail
  refine bodyPost_ret (v := .tuple #[.agg #[.slice P1 n1 c1, .slice P2 n2 c2], .int .i64 ee]) (by simp [results, Tryz.results149, go_sem, q0, q1]) rfl ⟨⟨_, rfl, HV.out⟩, ?_⟩
  exact (HB4.out.setCell (p := ⟨r, 0, none⟩) HR.out _).setCell (p := ⟨r, 1, none⟩) HR.out _
end Go.Proofs.YtlappkflnlbfcaaGreatDoor.Stk
end
