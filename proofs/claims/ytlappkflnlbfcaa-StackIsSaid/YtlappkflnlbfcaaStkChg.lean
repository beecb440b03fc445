/- A change of a stack, walked: what it hands back. -/
import Derived.Test.YtlappkflnlbfcaaStkSane
namespace Go.Proofs.Ytlappkflnlbfcaa.Stk
open Go.RowKit Row9
set_option maxRecDepth 100000
set_option maxHeartbeats 2000000
set_option linter.unusedVariables false
theorem run_k {k : FuncId} (h : Stab.FnOk Try.prog k) (args : Array Value) (w : World) : (callFunc k args).run Try.prog w = .ok (.enter k args) w := by
  obtain ⟨fn, hf, h1, h2⟩ := h
  exact Stab.run_enter hf h1 h2 args w
/-- A block that holds no number. -/
def NoInt (w : World) (r : Nat) : Prop := ∀ i k x, w.cell? ⟨r, i, none⟩ ≠ some (.int k x)
theorem row_besideB {w w' : World} {r : Nat} {v : Value} {l : List Int} (h : Row elB w v l) (hr : NoInt w r) (hc : Chg w w' (some r)) (hs : w.heap.size ≤ w'.heap.size) : Row elB w' v l := by
  obtain ⟨⟨A, c, h1, h2, h3, h4⟩, h5⟩ := h
  refine ⟨⟨A, c, h1, h2, h3, fun h0 => ?_⟩, h5⟩
  obtain ⟨g, off, e, hg, hC⟩ := h4 h0
  refine ⟨g, off, e, by omega, fun j p hp i u hu => ?_⟩
  have h6 := hC j p hp i u hu
  have hne : g ≠ r := by
    intro e1
    subst e1
    have : u = .int .u8 p := by
      have hi := (List.getElem?_eq_some_iff.1 hu).1
      have : i = 0 := by simp [elB] at hi; omega
      subst this
      simpa [elB] using hu.symm
    rw [this] at h6
    exact hr _ _ _ h6
  rw [World.cell?_of_block (a := ⟨g, off + j * elB.s + i, none⟩) (hc g hg (by intro e1; exact hne (Option.some.inj e1)))]
  exact h6
theorem row_besideC {e : TypeId} {hi} {w w' : World} {r : Nat} {v : Value} {l : List CtV} (h : Row (elCt e hi) w v l) (hr : NoInt w r) (hc : Chg w w' (some r)) (hs : w.heap.size ≤ w'.heap.size) : Row (elCt e hi) w' v l := by
  obtain ⟨⟨A, c, h1, h2, h3, h4⟩, h5⟩ := h
  refine ⟨⟨A, c, h1, h2, h3, fun h0 => ?_⟩, fun p hp => ⟨row_besideB (h5 p hp).1 hr hc hs, (h5 p hp).2⟩⟩
  obtain ⟨g, off, e1, hg, hC⟩ := h4 h0
  refine ⟨g, off, e1, by omega, fun j p hp i u hu => ?_⟩
  have h6 := hC j p hp i u hu
  have hne : g ≠ r := by
    intro e2
    subst e2
    exact hr _ _ _ (hC j p hp 0 _ rfl)
  rw [World.cell?_of_block (a := ⟨g, off + j * (elCt e hi).s + i, none⟩) (hc g hg (by intro e2; exact hne (Option.some.inj e2)))]
  exact h6
def zS : Value := .agg #[.slice none 0 0, .slice none 0 0]
/-- All below B is as it was, but what b names. -/
structure BO (B : Nat) (b : Option Nat) (w w' : World) : Prop where
  os : w'.os = w.os
  tape : w'.tape = w.tape
  output : w'.output = w.output
  size : w.heap.size ≤ w'.heap.size
  block : ∀ k, k < B → some k ≠ b → w'.heap[k]? = w.heap[k]?
theorem BO.of_below {B : Nat} {b : Option Nat} {w w' : World} (h : Below B w w') : BO B b w w' := ⟨h.os, h.tape, h.output, h.size, fun k hk _ => h.block k hk⟩
theorem BO.trans {B : Nat} {b : Option Nat} {a c d : World} (h : BO B b a c) (k : BO B b c d) : BO B b a d :=
  ⟨k.os.trans h.os, k.tape.trans h.tape, k.output.trans h.output, Nat.le_trans h.size k.size, fun i hi hn => (k.block i hi hn).trans (h.block i hi hn)⟩
theorem BO.below {B : Nat} {w w' : World} (h : BO B none w w') : Below B w w' := ⟨h.os, h.tape, h.output, h.size, fun k hk => h.block k hk (by simp)⟩
/-- How a change ends. -/
def ChTold (b : Option Nat) (s : Stk) (e0 : Int) (s' : Stk) (K : World → Prop) (w : World) (e : Ending) (w' : World) : Prop :=
  (sane s = false ∧ e = .returned (.tuple #[zS, .int .i64 1]) ∧ Below w.heap.size w w') ∨ (sane s = true ∧ e0 ≠ 0 ∧ e = .returned (.tuple #[zS, .int .i64 e0]) ∧ K w' ∧ BO w.heap.size b w w') ∨ (sane s = true ∧ e0 = 0 ∧ ∃ v, e = .returned (.tuple #[v, .int .i64 0]) ∧ StIs elP w' v s' ∧ K w' ∧ BO w.heap.size b w w')
theorem Dr.low {w : World} {B B' D : Nat} {vv cv : Value} {vals : List Int} {l : List CtV} (h : Dr w B D vv cv vals l) (hB : B' ≤ B) : Dr w B' D vv cv vals l :=
  ⟨Nat.le_trans hB h.hD, h.blk, own_low h.vO hB, h.vR, own_low h.cO hB, fun p hp => ⟨own_low (h.ok p hp).1 hB, (h.ok p hp).2⟩⟩
theorem chg2 (w : World) (r : Nat) (a b : Value) : Chg w ((w.setCell ⟨r, 0, none⟩ a).setCell ⟨r, 1, none⟩ b) (some r) := fun k hk hne => by
  have h : k ≠ r := fun e => hne (congrArg some e)
  rw [Below.heap_setCell _ _ _ _ h, Below.heap_setCell _ _ _ _ h]
theorem noint2 {w : World} {r : Nat} {t : TypeId} (h : w.heap[r]? = some (.cells #[.slice none 0 0, .slice none 0 0] t (0, 0))) : NoInt w r := fun i k x e => by
  rw [(cells_at h i).1] at e
  match i, e with
  | 0, e => cases e
  | 1, e => cases e
  | i + 2, e => cases e
theorem changed_any {a c : Value} {vals : List Int} {l : List CtV} {k : FuncId} {caps : Array Value} {w : World} {b : Option Nat} {e0 : Int} {s' : Stk} {K : World → Prop} (ha : Row elB w a vals) (hc : Row elP w c l) (hvl : vals.length ≤ 1000000) (hll : l.length ≤ 1000000)
    (hk : Stab.FnOk Try.prog k) (hKk : ∀ W W' r, K W → w.heap.size ≤ r → NoInt W r → Chg W W' (some r) → W.heap.size ≤ W'.heap.size → K W')
    (hF : sane ⟨vals, l.map (·.1)⟩ = true → ∀ W B D vv cv l', w.heap.size ≤ B → Below w.heap.size w W → Dr W B D vv cv vals l' → l'.map (·.1) = l.map (·.1) → Calls Try.prog k (#[.pointer (some ⟨D, 0, none⟩)] ++ caps) W fun e W' => e = .returned (.int .i64 e0) ∧ K W' ∧ (e0 = 0 → Left W' D s') ∧ BO B b W W')
    (hbr : ∀ x, w.heap.size ≤ x → some x ≠ b) :
    Calls Try.prog 27 #[.agg #[a, c], .func (.func k) #[] caps] w (ChTold b ⟨vals, l.map (·.1)⟩ e0 s' K w) := by
  have hrun := run_k hk
  have HA := Lib.hid ha
  have HC := Lib.hid hc
  obtain ⟨Pa, ca, rfl, _⟩ := ha.form
  obtain ⟨Pc, cc_, rfl, _⟩ := hc.form
  obtain ⟨nv, hnv⟩ : ∃ n, vals.length = n := ⟨_, rfl⟩
  obtain ⟨n, hn⟩ : ∃ n, l.length = n := ⟨_, rfl⟩
  rw [hnv] at HA ⊢
  rw [hn] at HC ⊢
  have HVL := Lib.hid hvl
  have HLL := Lib.hid hll
  have HF := Lib.hid hF
  have HKK := Lib.hid hKk
  have HBR := Lib.hid hbr
  have HW1 := Lib.hid (below_new w (.cells #[.slice Pa nv ca, .slice Pc n cc_] 30))
  have HS1 := Lib.hid (size_new w (.cells #[.slice Pa nv ca, .slice Pc n cc_] 30))
  have HX1 := Lib.hid (heap_new w (.cells #[.slice Pa nv ca, .slice Pc n cc_] 30))
  clear ha hc hvl hll hF hKk hbr hnv hn
  go_enter Try.func27, Try.ntmps27
  go_wp2_with fail
  have HW2 := Lib.hid (HW1.out.trans ((below_new (w.alloc (.cells #[.slice Pa nv ca, .slice Pc n cc_] 30)) (.cells #[.slice none 0 0, .slice none 0 0] 30)).mono HW1.out.size))
  have HW12 := Lib.hid (below_new (w.alloc (.cells #[.slice Pa nv ca, .slice Pc n cc_] 30)) (.cells #[.slice none 0 0, .slice none 0 0] 30))
  have HZ2 := Lib.hid (heap_new (w.alloc (.cells #[.slice Pa nv ca, .slice Pc n cc_] 30)) (.cells #[.slice none 0 0, .slice none 0 0] 30))
  have HT2 := Lib.hid (box2_keep HW12.out)
  rw [HS1.out] at HZ2
  generalize (w.alloc (.cells #[.slice Pa nv ca, .slice Pc n cc_] 30)).alloc (.cells #[.slice none 0 0, .slice none 0 0] 30) = w2 at *
  clear HW1 HS1 HX1 HW12
  obtain ⟨z, hz⟩ : ∃ z, w.heap.size = z := ⟨_, rfl⟩
  rw [hz] at HT2 HZ2
  obtain ⟨r, hr⟩ : ∃ r, z + 1 = r := ⟨_, rfl⟩
  have HR : Hid (w.heap.size ≤ r ∧ some r ≠ b ∧ w.heap.size ≤ z ∧ z < r) := ⟨by omega, HBR.out r (by omega), by omega, by omega⟩
  rw [hz, hr]
  rw [hr] at HZ2
  clear hz hr
  refine (sane_any (HA.out.keep HW2.out) (HC.out.keep HW2.out)).mono ?_
  rintro e w3 ⟨rfl, hb3⟩
  have HB3 := Lib.hid (HW2.out.trans (hb3.mono HW2.out.size))
  have hz3 := (hb3.block r (lt_of_heap HZ2.out)).trans HZ2.out
  have HZ3 := Lib.hid hz3
  have HRL := Lib.hid (lt_of_heap hz3)
  cases hs : sane ⟨vals, l.map (·.1)⟩ with
  | false =>
    have HS := Lib.hid hs
    obtain ⟨q0, p0⟩ := cells_at hz3 0
    obtain ⟨q1, p1⟩ := cells_at hz3 1
    simp only [List.getElem?_toArray, List.getElem?_cons_zero, List.getElem?_cons_succ] at q0 q1
    clear hs hb3 hz3 hrun
    go_wp2_with fail
    refine bodyPost_ret (v := .tuple #[zS, .int .i64 1]) (by simp [results, Try.results27, go_sem, zS, q0, q1]) rfl (.inl ⟨HS.out, rfl, ?_⟩)
    exact (HB3.out.setCell (p := ⟨r, 0, none⟩) HR.out.1 _).setCell (p := ⟨r, 1, none⟩) HR.out.1 _
  | true =>
    have HS := Lib.hid hs
    have hfs := (sane_facts hs).1
    have hzl := World.block_lt_of_cell? w2 _ HT2.out.1
    have t0 := (hb3.cell (p := ⟨z, 0, none⟩) hzl).trans HT2.out.1
    have t1 := (hb3.cell (p := ⟨z, 1, none⟩) hzl).trans HT2.out.2
    have HDr := Lib.hid (drafted_any (HA.out.keep HB3.out) (HC.out.keep HB3.out) (fun p hp => (hfs p.1 (List.mem_map_of_mem hp)).1) HVL.out HLL.out (fun p hp => by have := mayE_len (hfs p.1 (List.mem_map_of_mem hp)).2.2; omega))
    clear hs hb3 hz3 hfs hzl
    go_wp2_with fail
    refine HDr.out.mono ?_
    rintro e w4 ⟨D, vv, cv, l', rfl, hd, hl', hb4⟩
    have HB4 := Lib.hid (HB3.out.trans (hb4.mono HB3.out.size))
    have HZ4 := Lib.hid ((hb4.block r HRL.out).trans HZ3.out)
    have HFF := Lib.hid (HF.out HS.out w4 w3.heap.size D vv cv l' HB3.out.size HB4.out hd hl')
    have HSZ := Lib.hid hb4.size
    clear t0 t1 hd hl' hb4
    go_wp2_with fail
    refine HFF.out.mono ?_
    rintro e w5 ⟨rfl, hK, hL, hbb⟩
    have HK := Lib.hid hK
    have HL := Lib.hid hL
    have HB5 : Hid (BO w.heap.size b w w5) := (BO.of_below HB4.out).trans ⟨hbb.os, hbb.tape, hbb.output, hbb.size, fun k hk hne => hbb.block k (Nat.lt_of_lt_of_le hk HB3.out.size) hne⟩
    have hz5 := (hbb.block r HRL.out HR.out.2.1).trans HZ4.out
    have HZ5 := Lib.hid hz5
    obtain ⟨q0, p0⟩ := cells_at hz5 0
    obtain ⟨q1, p1⟩ := cells_at hz5 1
    simp only [List.getElem?_toArray, List.getElem?_cons_zero, List.getElem?_cons_succ] at q0 q1
    clear hK hL hbb hz5 hrun
    by_cases he : e0 = 0
    · subst he
      obtain ⟨a', c', pv, l'', hd5, ra, rc, hm⟩ := HL.out rfl
      obtain ⟨d0, d1, d2, f0, f1, f2⟩ := dr_cells hd5
      have HRA := Lib.hid (row_besideB ra (noint2 HZ5.out) (chg2 w5 r a' c') (by rw [set_size, set_size]; exact Nat.le_refl _))
      have HRC := Lib.hid (row_besideC rc (noint2 HZ5.out) (chg2 w5 r a' c') (by rw [set_size, set_size]; exact Nat.le_refl _))
      have HM := Lib.hid hm
      obtain ⟨Pa', ca', rfl, _⟩ := ra.form
      obtain ⟨Pc', cc', rfl, _⟩ := rc.form
      obtain ⟨na', hna⟩ : ∃ n, s'.vals.length = n := ⟨_, rfl⟩
      obtain ⟨nc', hnc⟩ : ∃ n, l''.length = n := ⟨_, rfl⟩
      rw [hna] at d0 HRA HRC
      rw [hnc] at d1 HRA HRC
      clear hd5 ra rc hm hna hnc d2 f0 f1 f2
      go_wp2_with fail
      refine bodyPost_ret (v := .tuple #[.agg #[.slice Pa' na' ca', .slice Pc' nc' cc'], .int .i64 0]) (by simp [results, Try.results27, go_sem, q0, q1]) rfl (.inr (.inr ⟨HS.out, rfl, _, rfl, ⟨_, _, _, rfl, HRA.out, HRC.out, HM.out⟩, ?_, ?_⟩))
      · exact HKK.out _ _ r HK.out HR.out.1 (noint2 HZ5.out) (chg2 w5 r _ _) (by rw [set_size, set_size]; exact Nat.le_refl _)
      · exact HB5.out.trans (BO.of_below (((Below.refl _ _).setCell (p := ⟨r, 0, none⟩) HR.out.1 _).setCell (p := ⟨r, 1, none⟩) HR.out.1 _))
    · have t5 : (e0 != 0) = true := by simpa using he
      have HE := Lib.hid he
      clear he
      go_wp2_with fail
      refine bodyPost_ret (v := .tuple #[zS, .int .i64 e0]) (by simp [results, Try.results27, go_sem, zS, q0, q1]) rfl (.inr (.inl ⟨HS.out, HE.out, rfl, ?_, ?_⟩))
      · exact HKK.out _ _ r HK.out HR.out.1 (noint2 HZ5.out) (chg2 w5 r _ _) (by rw [set_size, set_size]; exact Nat.le_refl _)
      · exact HB5.out.trans (BO.of_below (((Below.refl _ _).setCell (p := ⟨r, 0, none⟩) HR.out.1 _).setCell (p := ⟨r, 1, none⟩) HR.out.1 _))
end Go.Proofs.Ytlappkflnlbfcaa.Stk
