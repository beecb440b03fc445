/- ChkClose, ChkAt, ChkType. -/
import Derived.Test.YtlappkflnlbfcaaGreatDoorPkChkPrim
import Derived.Test.YtlappkflnlbfcaaGreatDoorPkStackDeadWalk
import Derived.Deep.RegionLaw
section
/- The checker's close, walked. -/
namespace Go.Proofs.YtlappkflnlbfcaaGreatDoor.Chk
open Go.RowKit Row9 Stk
set_option maxRecDepth 100000
set_option maxHeartbeats 2000000
set_option linter.unusedVariables false
/-- How close ends. -/
def ClEnds (w : World) (k : Nat) (V : EV) (E : EnvP) (x : Rs) (c : Ctl) (e : Ending) (w' : World) : Prop := ∃ P n d, e = .returned (.agg #[.int .i64 c.op, .slice P n d, .int .i64 c.ht, .bool c.dead]) ∧ Row elB w' (.slice P n d) c.fin ∧ Cx w' k V E x ∧ But k w w'
theorem close_ck {w : World} {k : Nat} {V : EV} {E : EnvP} {x : Rs} (h : Cx w k V E x) (hb : Bd x 400000) : Calls Tryz.prog 151 #[.pointer (some ⟨k, 0, none⟩)] w (ClEnds w k V E (closeR x) (closedC x)) := by
  have HB0 := Lib.hid (below_new w (.cells #[.int .i64 0, .slice none 0 0, .int .i64 0, .bool false] 72))
  have HZ := Lib.hid (heap_new w (.cells #[.int .i64 0, .slice none 0 0, .int .i64 0, .bool false] 72))
  have H := Lib.hid (h.keep HB0.out)
  have hkl : k < w.heap.size := h.lt
  have HKL : Hid (k < w.heap.size) := hkl
  cases x with
  | er e =>
    obtain ⟨P, n, c, Q, m, d, h1, t1⟩ := h.er
    obtain ⟨c7, c8, c9, f7, f8, f9⟩ := cells10 h1
    clear h h1 hb
    go_enter Tryz.func151, Tryz.ntmps151
    go_wp2_with fail
    obtain ⟨z0, z1, z2, z3⟩ := cells4 HZ.out
    exact bodyPost_ret (v := .agg #[.int .i64 0, .slice none 0 0, .int .i64 0, .bool false]) (by simp [results, Tryz.results151, go_sem, z0, z1, z2, z3]) rfl ⟨_, _, _, rfl, Row.nil _ _, H.out, But.of_below HB0.out⟩
  | ok s =>
    have HH := Lib.hid h
    obtain ⟨P, n, c, Q, m, d, h1, hs⟩ := h.ok
    have hbd := hb s rfl
    have HK := Lib.hid (Close_hst (hs.keep HB0.out) hbd.1 hbd.2)
    have HX := Lib.hid (blk h1 HB0.out)
    obtain ⟨c7, c8, c9, f7, f8, f9⟩ := cells10 h1
    clear h h1 hs hb hbd
    go_enter Tryz.func151, Tryz.ntmps151
    go_wp2_with fail
    clear c7 c8 c9 f7 f8 f9 hkl
    generalize w.alloc (.cells #[.int .i64 0, .slice none 0 0, .int .i64 0, .bool false] 72) = w0 at *
    obtain ⟨z, hz⟩ : ∃ z, w.heap.size = z := ⟨_, rfl⟩
    have HZW : Hid (w.heap.size = z) := hz
    rw [hz] at HZ HKL
    simp only [hz]
    refine HK.out.mono ?_
    rintro e w1 hen
    obtain ⟨P5, n5, c5, Q5, m5, d5, R5, k5, f5, rfl, hst, hrow, hb⟩ := hen.of
    have HB1 := Lib.hid hb
    have HX1 := Lib.hid (blk HX.out hb)
    have HZ1 := Lib.hid (blk HZ.out hb)
    have HST := Lib.hid hst
    have HROW := Lib.hid hrow
    have HK0 : Hid (k < w0.heap.size) := lt_of_heap HX.out
    have HZ0 : Hid (z < w0.heap.size) := lt_of_heap HZ.out
    clear hen hst hrow hb HK hz
    obtain ⟨c7, c8, c9, f7, f8, f9⟩ := cells10 HX1.out
    obtain ⟨z0, z1, z2, z3⟩ := cells4 HZ1.out
    have zp0 := (cells_at HZ1.out 0).2
    have zp1 := (cells_at HZ1.out 1).2
    have zp2 := (cells_at HZ1.out 2).2
    have zp3 := (cells_at HZ1.out 3).2
    have hzl : z < w1.heap.size := lt_of_heap HZ1.out
    have hkl : k < w1.heap.size := lt_of_heap HX1.out
    have hkz : k ≠ z := by have := HKL.out; omega
    have hzk : z ≠ k := Ne.symm hkz
    go_wp2_with fail
    clear c7 c8 c9 f7 f8 f9 z0 z1 z2 z3 zp0 zp1 zp2 zp3 hzl hkl
    generalize hop : (closeS s).2.1.op = op at *
    generalize hht : (closeS s).2.1.ht = ht at *
    generalize hdd : (closeS s).2.1.dead = dd at *
    have a1 := set_heap (set_heap (show w1.heap[k]? = some (ckObj V E (.slice P n c) (.slice Q m d) 0) from HX1.out) (i := 7) (.slice P5 n5 c5)) (i := 8) (.slice Q5 m5 d5)
    have a1 : ((w1.setCell ⟨k, 7, none⟩ (.slice P5 n5 c5)).setCell ⟨k, 8, none⟩ (.slice Q5 m5 d5)).heap[k]? = some (ckObj V E (.slice P5 n5 c5) (.slice Q5 m5 d5) 0) := a1
    have ab : But k w1 ((w1.setCell ⟨k, 7, none⟩ (.slice P5 n5 c5)).setCell ⟨k, 8, none⟩ (.slice Q5 m5 d5)) := ((But.refl k w1).setCell 7 _).setCell 8 _
    have az := (ab.block z (lt_of_heap HZ1.out) hzk).trans HZ1.out
    have ar := rowB_apart HROW.out (nobb_ck HX1.out) ab
    generalize (w1.setCell ⟨k, 7, none⟩ (.slice P5 n5 c5)).setCell ⟨k, 8, none⟩ (.slice Q5 m5 d5) = wa at *
    have bc := chg4 wa z (.int .i64 op) (.slice R5 k5 f5) (.int .i64 ht) (.bool dd)
    have b1 := blk2 bc a1 hkz
    have bz := store4 az (.int .i64 op) (.slice R5 k5 f5) (.int .i64 ht) (.bool dd)
    have bs := size4 wa z (.int .i64 op) (.slice R5 k5 f5) (.int .i64 ht) (.bool dd)
    have br := rowB_chg ar (no8_ctl az (by intro x; simp) (by intro x; simp) (by intro x; simp) (by intro x; simp)) bc (Nat.le_of_eq bs.symm)
    have bb := below_set4 (Below.refl wa.heap.size wa) (z := z)
    have bo : ((((wa.setCell ⟨z, 0, none⟩ (.int .i64 op)).setCell ⟨z, 1, none⟩ (.slice R5 k5 f5)).setCell ⟨z, 2, none⟩ (.int .i64 ht)).setCell ⟨z, 3, none⟩ (.bool dd)).os = wa.os ∧ ((((wa.setCell ⟨z, 0, none⟩ (.int .i64 op)).setCell ⟨z, 1, none⟩ (.slice R5 k5 f5)).setCell ⟨z, 2, none⟩ (.int .i64 ht)).setCell ⟨z, 3, none⟩ (.bool dd)).tape = wa.tape ∧ ((((wa.setCell ⟨z, 0, none⟩ (.int .i64 op)).setCell ⟨z, 1, none⟩ (.slice R5 k5 f5)).setCell ⟨z, 2, none⟩ (.int .i64 ht)).setCell ⟨z, 3, none⟩ (.bool dd)).output = wa.output := ⟨rfl, rfl, rfl⟩
    clear bb
    generalize (((wa.setCell ⟨z, 0, none⟩ (.int .i64 op)).setCell ⟨z, 1, none⟩ (.slice R5 k5 f5)).setCell ⟨z, 2, none⟩ (.int .i64 ht)).setCell ⟨z, 3, none⟩ (.bool dd) = wb at *
    have c1 := set10e b1 (closeS s).2.2
    have cb : But k wb (wb.setCell ⟨k, 9, none⟩ (.int .i64 (closeS s).2.2)) := (But.refl k wb).setCell 9 _
    have cz := (cb.block z (lt_of_heap bz) hzk).trans bz
    have cr := rowB_apart br (nobb_ck b1) cb
    generalize wb.setCell ⟨k, 9, none⟩ (.int .i64 (closeS s).2.2) = wc at *
    have dc := chg4 wc z (.int .i64 op) (.slice R5 k5 f5) (.int .i64 ht) (.bool dd)
    have d1 := blk2 dc c1 hkz
    have dz := store4 cz (.int .i64 op) (.slice R5 k5 f5) (.int .i64 ht) (.bool dd)
    have ds := size4 wc z (.int .i64 op) (.slice R5 k5 f5) (.int .i64 ht) (.bool dd)
    have dr := rowB_chg cr (no8_ctl cz (by intro x; simp) (by intro x; simp) (by intro x; simp) (by intro x; simp)) dc (Nat.le_of_eq ds.symm)
    have do_ : ((((wc.setCell ⟨z, 0, none⟩ (.int .i64 op)).setCell ⟨z, 1, none⟩ (.slice R5 k5 f5)).setCell ⟨z, 2, none⟩ (.int .i64 ht)).setCell ⟨z, 3, none⟩ (.bool dd)).os = wc.os ∧ ((((wc.setCell ⟨z, 0, none⟩ (.int .i64 op)).setCell ⟨z, 1, none⟩ (.slice R5 k5 f5)).setCell ⟨z, 2, none⟩ (.int .i64 ht)).setCell ⟨z, 3, none⟩ (.bool dd)).tape = wc.tape ∧ ((((wc.setCell ⟨z, 0, none⟩ (.int .i64 op)).setCell ⟨z, 1, none⟩ (.slice R5 k5 f5)).setCell ⟨z, 2, none⟩ (.int .i64 ht)).setCell ⟨z, 3, none⟩ (.bool dd)).output = wc.output := ⟨rfl, rfl, rfl⟩
    generalize (((wc.setCell ⟨z, 0, none⟩ (.int .i64 op)).setCell ⟨z, 1, none⟩ (.slice R5 k5 f5)).setCell ⟨z, 2, none⟩ (.int .i64 ht)).setCell ⟨z, 3, none⟩ (.bool dd) = wd at *
    obtain ⟨z0, z1, z2, z3⟩ := cells4 dz
    have hall : ∀ j, j < w1.heap.size → j ≠ k → j ≠ z → wd.heap[j]? = w1.heap[j]? := fun j hj h1 h2 => by
      have e1 := ab.size
      have e2 := cb.size
      rw [dc j (by omega) (fun e => h2 (Option.some.inj e)), cb.block j (by omega) h1, bc j (by omega) (fun e => h2 (Option.some.inj e)), ab.block j hj h1]
    have hsz : w1.heap.size ≤ wd.heap.size := by have e1 := ab.size; have e2 := cb.size; omega
    have HBD : But k w wd := ⟨(do_.1.trans (cb.os.trans (bo.1.trans ab.os))).trans (HB1.out.os.trans HB0.out.os), (do_.2.1.trans (cb.tape.trans (bo.2.1.trans ab.tape))).trans (HB1.out.tape.trans HB0.out.tape), (do_.2.2.trans (cb.output.trans (bo.2.2.trans ab.output))).trans (HB1.out.output.trans HB0.out.output), Nat.le_trans HB0.out.size (Nat.le_trans HB1.out.size hsz), fun j hj h1 => by
      have h2 : j < w0.heap.size := Nat.lt_of_lt_of_le hj HB0.out.size
      rw [hall j (Nat.lt_of_lt_of_le h2 HB1.out.size) h1 (by have := HZW.out; omega), HB1.out.block j h2, HB0.out.block j hj]⟩
    exact bodyPost_ret (v := .agg #[.int .i64 op, .slice R5 k5 f5, .int .i64 ht, .bool dd]) (by simp [results, Tryz.results151, go_sem, z0, z1, z2, z3]) rfl ⟨_, _, _, by rw [← hop, ← hht, ← hdd]; rfl, dr, HH.out.put HBD (by show wd.heap[k]? = some (ckObj V E (.slice P5 n5 c5) (.slice Q5 m5 d5) (ofP ((closeS s).1, (closeS s).2.2)).code); rw [ofP_code]; exact d1) (fun s' hs' => by obtain ⟨_, rfl⟩ := ofP_ok hs'; exact HST.out wd (fun j h1 h2 => hall j h2 (by have := HK0.out; omega) (by have := HZ0.out; omega))) (fun e he => ofP_ne he), HBD⟩
end Go.Proofs.YtlappkflnlbfcaaGreatDoor.Chk
end

section
/- The n-th of a list, what is named by a number, a function's type: walked (gen_ckat.py). -/
namespace Go.Proofs.YtlappkflnlbfcaaGreatDoor.Chk
open Go.RowKit Row9 Stk
set_option maxRecDepth 100000
set_option maxHeartbeats 2000000
set_option linter.unusedVariables false
theorem atL_neg {α : Type} {l : List α} {n : Int} (h : n < 0) : atL l n = none := if_pos h
theorem atL_out {α : Type} {l : List α} {n : Int} (h : (l.length : Int) ≤ n) : atL l n = none := by
  unfold atL
  rw [if_neg (by omega), List.getElem?_eq_none_iff.2 (by omega)]
theorem atL_in {α : Type} {l : List α} {k : Nat} {p : α} (h : l[k]? = some p) : atL l (k : Int) = some p := by
  unfold atL
  rw [if_neg (by omega)]
  exact h
theorem at_cases {α : Type} (l : List α) (n : Int) : n < 0 ∨ (¬ n < 0 ∧ (l.length : Int) ≤ n) ∨ ∃ (k : Nat) (p : α), n = (k : Int) ∧ k < l.length ∧ l[k]? = some p := by
  by_cases h : n < 0
  · exact .inl h
  · by_cases h2 : (l.length : Int) ≤ n
    · exact .inr (.inl ⟨h, h2⟩)
    · obtain ⟨k, rfl⟩ : ∃ k : Nat, n = (k : Int) := ⟨n.toNat, by omega⟩
      exact .inr (.inr ⟨k, _, rfl, by omega, List.getElem?_eq_getElem (by omega)⟩)
theorem at_int {w : World} {v : Value} {l : List Int} {n : Int} (h : Row elI w v l) : Calls Tryz.prog 42 #[v, .int .i64 n] w fun e w' => e = .returned (.tuple #[.int .i64 ((atL l n).getD 0), .bool (atL l n).isSome]) ∧ w' = w := by
  obtain ⟨A, c, rfl, _⟩ := h.form
  obtain ⟨m, hm⟩ : ∃ m, l.length = m := ⟨_, rfl⟩
  have HC := Lib.hid h
  rcases at_cases l n with h1 | ⟨h1, h2⟩ | ⟨k, p, rfl, h1, h2⟩
  · rw [atL_neg h1]
    have t1 : decide (n < 0) = true := decide_eq_true h1
    clear h h1
    rw [hm]
    clear hm HC
    go_enter Tryz.func42, Tryz.ntmps42
    go_wp2_with fail
    exact bodyPost_ret (v := .tuple #[.int .i64 0, .bool false]) (by simp [results, Tryz.results42, go_sem]) rfl ⟨rfl, rfl⟩
  · rw [atL_out h2]
    rw [hm] at h2 ⊢
    have t1 : decide (n < 0) = false := decide_eq_false h1
    have t2 : decide ((m : Int) ≤ n) = true := decide_eq_true h2
    clear h h1 h2 hm HC
    go_enter Tryz.func42, Tryz.ntmps42
    go_wp2_with fail
    exact bodyPost_ret (v := .tuple #[.int .i64 0, .bool false]) (by simp [results, Tryz.results42, go_sem]) rfl ⟨rfl, rfl⟩
  · rw [atL_in h2]
    obtain ⟨g, off, rfl, hg, hA, hok⟩ := h.at_ h2
    have c0 := hA 0 _ rfl
    obtain ⟨q, hq⟩ : ∃ q, off + k * elI.s = q := ⟨_, rfl⟩
    rw [hq] at c0
    simp only [Nat.add_zero] at c0
    have hq : off + k = q := by rw [← hq]; show off + k = off + k * 1; omega
    rw [hm] at h1 ⊢
    have t1 : decide ((k : Int) < 0) = false := decide_eq_false (by omega)
    have t2 : decide ((m : Int) ≤ (k : Int)) = false := decide_eq_false (by omega)
    have t2' : decide (m ≤ k) = false := decide_eq_false (by omega)
    have i1 : (0 : Int) ≤ (k : Int) := by omega
    have i2 : (k : Int) < (m : Int) := by omega
    clear h h1 h2 hm HC hA hok hg
    go_enter Tryz.func42, Tryz.ntmps42
    go_wp2_with fail
    exact bodyPost_ret (v := .tuple #[.int .i64 p, .bool true]) (by simp [results, Tryz.results42, go_sem]) rfl ⟨rfl, rfl⟩
theorem at_byte {w : World} {v : Value} {l : List Int} {n : Int} (h : Row elB w v l) : Calls Tryz.prog 158 #[v, .int .i64 n] w fun e w' => e = .returned (.tuple #[.int .u8 ((atL l n).getD 0), .bool (atL l n).isSome]) ∧ w' = w := by
  obtain ⟨A, c, rfl, _⟩ := h.form
  obtain ⟨m, hm⟩ : ∃ m, l.length = m := ⟨_, rfl⟩
  have HC := Lib.hid h
  rcases at_cases l n with h1 | ⟨h1, h2⟩ | ⟨k, p, rfl, h1, h2⟩
  · rw [atL_neg h1]
    have t1 : decide (n < 0) = true := decide_eq_true h1
    clear h h1
    rw [hm]
    clear hm HC
    go_enter Tryz.func158, Tryz.ntmps158
    go_wp2_with fail
    exact bodyPost_ret (v := .tuple #[.int .u8 0, .bool false]) (by simp [results, Tryz.results158, go_sem]) rfl ⟨rfl, rfl⟩
  · rw [atL_out h2]
    rw [hm] at h2 ⊢
    have t1 : decide (n < 0) = false := decide_eq_false h1
    have t2 : decide ((m : Int) ≤ n) = true := decide_eq_true h2
    clear h h1 h2 hm HC
    go_enter Tryz.func158, Tryz.ntmps158
    go_wp2_with fail
    exact bodyPost_ret (v := .tuple #[.int .u8 0, .bool false]) (by simp [results, Tryz.results158, go_sem]) rfl ⟨rfl, rfl⟩
  · rw [atL_in h2]
    obtain ⟨g, off, rfl, hg, hA, hok⟩ := h.at_ h2
    have c0 := hA 0 _ rfl
    obtain ⟨q, hq⟩ : ∃ q, off + k * elB.s = q := ⟨_, rfl⟩
    rw [hq] at c0
    simp only [Nat.add_zero] at c0
    have hq : off + k = q := by rw [← hq]; show off + k = off + k * 1; omega
    rw [hm] at h1 ⊢
    have t1 : decide ((k : Int) < 0) = false := decide_eq_false (by omega)
    have t2 : decide ((m : Int) ≤ (k : Int)) = false := decide_eq_false (by omega)
    have t2' : decide (m ≤ k) = false := decide_eq_false (by omega)
    have i1 : (0 : Int) ≤ (k : Int) := by omega
    have i2 : (k : Int) < (m : Int) := by omega
    clear h h1 h2 hm HC hA hok hg
    go_enter Tryz.func158, Tryz.ntmps158
    go_wp2_with fail
    exact bodyPost_ret (v := .tuple #[.int .u8 p, .bool true]) (by simp [results, Tryz.results158, go_sem]) rfl ⟨rfl, rfl⟩
theorem at_glob {w : World} {v : Value} {l : List (Int × Bool)} {n : Int} (h : Row elGP w v l) : Calls Tryz.prog 159 #[v, .int .i64 n] w fun e w' => (∃ p : (Int × Bool), (atL l n).getD (0, false) = p ∧ e = .returned (.tuple #[.agg #[.int .u8 p.1, .bool p.2], .bool (atL l n).isSome])) ∧ Below w.heap.size w w' := by
  obtain ⟨A, c, rfl, _⟩ := h.form
  obtain ⟨m, hm⟩ : ∃ m, l.length = m := ⟨_, rfl⟩
  have HB1 := Lib.hid (below_new w (.cells #[.int .u8 0, .bool false] 82))
  have HZ1 := Lib.hid (heap_new w (.cells #[.int .u8 0, .bool false] 82))
  have HB2 := Lib.hid (below2 w (.cells #[.int .u8 0, .bool false] 82) (.cells #[.int .u8 0, .bool false] 82))
  have HZ2 := Lib.hid (blk HZ1.out (below_new (w.alloc (.cells #[.int .u8 0, .bool false] 82)) (.cells #[.int .u8 0, .bool false] 82)))
  rcases at_cases l n with h1 | ⟨h1, h2⟩ | ⟨k, p, rfl, h1, h2⟩
  · rw [atL_neg h1]
    have t1 : decide (n < 0) = true := decide_eq_true h1
    clear h h1
    rw [hm]
    clear hm
    go_enter Tryz.func159, Tryz.ntmps159
    go_wp2_with fail
    obtain ⟨f0, f1⟩ := cells2 HZ2.out
    exact bodyPost_ret (v := .tuple #[.agg #[.int .u8 0, .bool false], .bool false]) (by simp [results, Tryz.results159, go_sem, f0, f1]) rfl ⟨⟨(0, false), rfl, rfl⟩, HB2.out⟩
  · rw [atL_out h2]
    rw [hm] at h2 ⊢
    have t1 : decide (n < 0) = false := decide_eq_false h1
    have t2 : decide ((m : Int) ≤ n) = true := decide_eq_true h2
    clear h h1 h2 hm
    go_enter Tryz.func159, Tryz.ntmps159
    go_wp2_with fail
    obtain ⟨f0, f1⟩ := cells2 HZ2.out
    exact bodyPost_ret (v := .tuple #[.agg #[.int .u8 0, .bool false], .bool false]) (by simp [results, Tryz.results159, go_sem, f0, f1]) rfl ⟨⟨(0, false), rfl, rfl⟩, HB2.out⟩
  · rw [atL_in h2]
    obtain ⟨g, off, rfl, hg, hA, hok⟩ := (h.keep HB1.out).at_ h2
    have c0 := hA 0 _ rfl
    have c1 := hA 1 _ rfl
    obtain ⟨q, hq⟩ : ∃ q, off + k * elGP.s = q := ⟨_, rfl⟩
    rw [hq] at c0 c1
    simp only [Nat.add_zero] at c0
    have hq : off + k * 2 = q := hq
    rw [hm] at h1 ⊢
    have t1 : decide ((k : Int) < 0) = false := decide_eq_false (by omega)
    have t2 : decide ((m : Int) ≤ (k : Int)) = false := decide_eq_false (by omega)
    have t2' : decide (m ≤ k) = false := decide_eq_false (by omega)
    have i1 : (0 : Int) ≤ (k : Int) := by omega
    have i2 : (k : Int) < (m : Int) := by omega
    skip
    have HBS := Lib.hid (below_new w (.cells #[.int .u8 p.1, .bool p.2] 82))
    have HZS := Lib.hid (heap_new w (.cells #[.int .u8 p.1, .bool p.2] 82))
    clear h h1 h2 hm hA hok hg
    go_enter Tryz.func159, Tryz.ntmps159
    go_wp2_with fail
    obtain ⟨f0, f1⟩ := cells2 HZS.out
    exact bodyPost_ret (v := .tuple #[.agg #[.int .u8 p.1, .bool p.2], .bool true]) (by simp [results, Tryz.results159, go_sem, f0, f1]) rfl ⟨⟨_, rfl, rfl⟩, HBS.out⟩
theorem fn_form {w : World} {p : FnV} (h : FnOk w p) : ∃ P n c Q m d, p.2.1 = .slice P n c ∧ p.2.2 = .slice Q m d := by
  obtain ⟨P, c, e1, _⟩ := h.1.form
  obtain ⟨Q, d, e2, _⟩ := h.2.form
  exact ⟨P, _, c, Q, _, d, e1, e2⟩
/-- How at ends, for functions' types. -/
def FnTold (w : World) (f : List Int × List Int) (ok : Bool) (e : Ending) (w' : World) : Prop := (∃ P n c Q m d, e = .returned (.tuple #[.agg #[.slice P n c, .slice Q m d], .bool ok]) ∧ Row elB w' (.slice P n c) f.1 ∧ Row elB w' (.slice Q m d) f.2) ∧ Below w.heap.size w w'
theorem at_fn {w : World} {v : Value} {ts : List FnV} {n : Int} (h : Row elF w v ts) : Calls Tryz.prog 43 #[v, .int .i64 n] w (FnTold w ((atL (ts.map (·.1)) n).getD ([], [])) (atL (ts.map (·.1)) n).isSome) := by
  obtain ⟨A, c, rfl, _⟩ := h.form
  obtain ⟨m, hm⟩ : ∃ m, ts.length = m := ⟨_, rfl⟩
  have HB1 := Lib.hid (below_new w (.cells #[.slice none 0 0, .slice none 0 0] 51))
  have HZ1 := Lib.hid (heap_new w (.cells #[.slice none 0 0, .slice none 0 0] 51))
  have HB2 := Lib.hid (below2 w (.cells #[.slice none 0 0, .slice none 0 0] 51) (.cells #[.slice none 0 0, .slice none 0 0] 51))
  have HZ2 := Lib.hid (blk HZ1.out (below_new (w.alloc (.cells #[.slice none 0 0, .slice none 0 0] 51)) (.cells #[.slice none 0 0, .slice none 0 0] 51)))
  rcases at_cases ts n with h1 | ⟨h1, h2⟩ | ⟨k, p, rfl, h1, h2⟩
  · rw [atL_neg h1]
    have t1 : decide (n < 0) = true := decide_eq_true h1
    clear h h1
    rw [hm]
    clear hm
    go_enter Tryz.func43, Tryz.ntmps43
    go_wp2_with fail
    obtain ⟨f0, f1⟩ := cells2 HZ2.out
    exact bodyPost_ret (v := .tuple #[.agg #[.slice none 0 0, .slice none 0 0], .bool false]) (by simp [results, Tryz.results43, go_sem, f0, f1]) rfl ⟨⟨_, _, _, _, _, _, rfl, Row.nil _ _, Row.nil _ _⟩, HB2.out⟩
  · rw [atL_out (l := ts.map (·.1)) (by rw [List.length_map]; exact h2)]
    rw [hm] at h2 ⊢
    have t1 : decide (n < 0) = false := decide_eq_false h1
    have t2 : decide ((m : Int) ≤ n) = true := decide_eq_true h2
    clear h h1 h2 hm
    go_enter Tryz.func43, Tryz.ntmps43
    go_wp2_with fail
    obtain ⟨f0, f1⟩ := cells2 HZ2.out
    exact bodyPost_ret (v := .tuple #[.agg #[.slice none 0 0, .slice none 0 0], .bool false]) (by simp [results, Tryz.results43, go_sem, f0, f1]) rfl ⟨⟨_, _, _, _, _, _, rfl, Row.nil _ _, Row.nil _ _⟩, HB2.out⟩
  · rw [atL_in (l := ts.map (·.1)) (p := p.1) (by rw [List.getElem?_map, h2]; rfl)]
    obtain ⟨g, off, rfl, hg, hA, hok⟩ := (h.keep HB1.out).at_ h2
    have hokw : FnOk w p := h.2 p (List.mem_of_getElem? h2)
    have c0 := hA 0 _ rfl
    have c1 := hA 1 _ rfl
    obtain ⟨q, hq⟩ : ∃ q, off + k * elF.s = q := ⟨_, rfl⟩
    rw [hq] at c0 c1
    simp only [Nat.add_zero] at c0
    have hq : off + k * 2 = q := hq
    obtain ⟨⟨fp, fr⟩, v1, v2⟩ := p
    obtain ⟨P1, n1, c1', Q1, m1, d1, e1, e2⟩ := fn_form hokw
    simp only at e1 e2 c0 c1
    subst e1 e2
    rw [hm] at h1 ⊢
    have t1 : decide ((k : Int) < 0) = false := decide_eq_false (by omega)
    have t2 : decide ((m : Int) ≤ (k : Int)) = false := decide_eq_false (by omega)
    have t2' : decide (m ≤ k) = false := decide_eq_false (by omega)
    have i1 : (0 : Int) ≤ (k : Int) := by omega
    have i2 : (k : Int) < (m : Int) := by omega
    have HBS := Lib.hid (below_new w (.cells #[.slice P1 n1 c1', .slice Q1 m1 d1] 51))
    have HZS := Lib.hid (heap_new w (.cells #[.slice P1 n1 c1', .slice Q1 m1 d1] 51))
    have HR := Lib.hid (show FnOk _ ((fp, fr), (.slice P1 n1 c1', .slice Q1 m1 d1)) from elF.stay hokw HBS.out)
    clear h h1 h2 hm hA hok hokw hg
    go_enter Tryz.func43, Tryz.ntmps43
    go_wp2_with fail
    obtain ⟨f0, f1⟩ := cells2 HZS.out
    exact bodyPost_ret (v := .tuple #[.agg #[.slice P1 n1 c1', .slice Q1 m1 d1], .bool true]) (by simp [results, Tryz.results43, go_sem, f0, f1]) rfl ⟨⟨_, _, _, _, _, _, rfl, HR.out.1, HR.out.2⟩, HBS.out⟩
end Go.Proofs.YtlappkflnlbfcaaGreatDoor.Chk
end

section
/- A function's type, walked: the program's. -/
namespace Go.Proofs.YtlappkflnlbfcaaGreatDoor.Chk
open Go.RowKit Row9 Stk
set_option maxRecDepth 100000
set_option maxHeartbeats 4000000
set_option linter.unusedVariables false
/-- Types and results that are few. -/
def FnBd (E : EnvP) : Prop := (∀ p ∈ E.types, p.1.length ≤ 1000 ∧ p.2.length ≤ 1000) ∧ E.results.length ≤ 1000
theorem atL_mem {α : Type} {l : List α} {n : Int} {p : α} (h : atL l n = some p) : p ∈ l := by
  unfold atL at h
  split at h
  · cases h
  · exact List.mem_of_getElem? h
theorem atL_bd {E : EnvP} (h : FnBd E) (n : Int) : ((atL E.types n).getD ([], [])).1.length ≤ 1000 ∧ ((atL E.types n).getD ([], [])).2.length ≤ 1000 := by
  cases hq : atL E.types n with
  | none => exact ⟨Nat.zero_le _, Nat.zero_le _⟩
  | some p => exact h.1 p (atL_mem hq)
theorem type_bd {E : EnvP} (h : FnBd E) (n : Int) : ((typeE E n).getD ([], [])).1.length ≤ 1000 ∧ ((typeE E n).getD ([], [])).2.length ≤ 1000 := by
  unfold typeE
  cases hq : atL E.funcs n with
  | none => exact ⟨Nat.zero_le _, Nat.zero_le _⟩
  | some p => exact atL_bd h p
theorem Type_any {T : El (Int × Bool)} {w : World} {V : EV} {E : EnvP} {f : Int} (h : EnvOk T w V E) (hB : FnBd E) : Calls Tryz.prog 16 #[evV V E, .int .i64 f] w (FnTold w ((typeE E f).getD ([], [])) (typeE E f).isSome) := by
  obtain ⟨⟨ts, hts, hmt⟩, hf, _⟩ := h
  obtain ⟨types, funcs, tables, mems, globs, locals, ress⟩ := E
  obtain ⟨Pt, nt, ct, Pf, nf, cf, Pg, ng, cg, Pl, nl, cl, Pr, nr, cr⟩ := V
  simp only at hts hmt hf
  subst hmt
  have HB2 := Lib.hid (below2 w (.cells #[.slice Pt nt ct, .slice Pf nf cf, .int .i64 tables, .int .i64 mems, .slice Pg ng cg, .slice Pl nl cl, .slice Pr nr cr] 45) (.cells #[.slice none 0 0, .slice none 0 0] 51))
  have HX := Lib.hid (blk (heap_new w (.cells #[.slice Pt nt ct, .slice Pf nf cf, .int .i64 tables, .int .i64 mems, .slice Pg ng cg, .slice Pl nl cl, .slice Pr nr cr] 45)) (below_new (w.alloc (.cells #[.slice Pt nt ct, .slice Pf nf cf, .int .i64 tables, .int .i64 mems, .slice Pg ng cg, .slice Pl nl cl, .slice Pr nr cr] 45)) (.cells #[.slice none 0 0, .slice none 0 0] 51)))
  have HR := Lib.hid (heap_new (w.alloc (.cells #[.slice Pt nt ct, .slice Pf nf cf, .int .i64 tables, .int .i64 mems, .slice Pg ng cg, .slice Pl nl cl, .slice Pr nr cr] 45)) (.cells #[.slice none 0 0, .slice none 0 0] 51))
  simp only [size_new] at HR
  have HT := Lib.hid (hts.keep HB2.out)
  have HF := Lib.hid (hf.keep HB2.out)
  have HFB := Lib.hid hB
  have HD : Hid (typeE ⟨ts.map (·.1), funcs, tables, mems, globs, locals, ress⟩ f = (atL funcs f).bind fun n => atL (ts.map (·.1)) n) := rfl
  obtain ⟨R, hR⟩ : ∃ R, typeE ⟨ts.map (·.1), funcs, tables, mems, globs, locals, ress⟩ f = R := ⟨_, rfl⟩
  rw [hR] at HD ⊢
  have HTB := Lib.hid (hR ▸ type_bd (n := f) hB)
  have hev : evV ⟨Pt, nt, ct, Pf, nf, cf, Pg, ng, cg, Pl, nl, cl, Pr, nr, cr⟩ ⟨ts.map (·.1), funcs, tables, mems, globs, locals, ress⟩ = .agg #[.slice Pt nt ct, .slice Pf nf cf, .int .i64 tables, .int .i64 mems, .slice Pg ng cg, .slice Pl nl cl, .slice Pr nr cr] := rfl
  rw [hev]
  clear hts hf hB hR hev
  have x0 := (cells_at HX.out 0).1
  have x1 := (cells_at HX.out 1).1
  simp only [List.getElem?_toArray, List.getElem?_cons_zero, List.getElem?_cons_succ] at x0 x1
  go_enter Tryz.func16, Tryz.ntmps16
  go_wp2_with fail
  clear x0 x1
  generalize (w.alloc (.cells #[.slice Pt nt ct, .slice Pf nf cf, .int .i64 tables, .int .i64 mems, .slice Pg ng cg, .slice Pl nl cl, .slice Pr nr cr] 45)).alloc (.cells #[.slice none 0 0, .slice none 0 0] 51) = w2 at *
  obtain ⟨b, hb0⟩ : ∃ b, w.heap.size = b := ⟨_, rfl⟩
  obtain ⟨r, hr0⟩ : ∃ r, b + 1 = r := ⟨_, rfl⟩
  have HBR : Hid (w.heap.size ≤ r) := Lib.hid (by omega)
  rw [hb0] at HX HR
  rw [hr0] at HR
  simp only [hb0]
  simp only [hr0]
  clear hb0 hr0
  refine (at_int HF.out).mono ?_
  rintro e w3 ⟨rfl, rfl⟩
  cases hq : atL funcs f with
  | none =>
    have HQ : Hid (R = none) := by show _ = _; rw [HD.out, hq]; rfl
    clear hq
    obtain ⟨q0, q1⟩ := cells2 HR.out
    have p0 := (cells_at HR.out 0).2
    have p1 := (cells_at HR.out 1).2
    have hrl : r < w3.heap.size := lt_of_heap HR.out
    simp only [Option.getD_none, Option.isSome_none]
    go_wp2_with fail
    obtain ⟨f0, f1⟩ := cells2 (store2 HR.out (.slice none 0 0) (.slice none 0 0))
    have HF2 := Lib.hid ((HB2.out.setCell (p := ⟨r, 0, none⟩) HBR.out (.slice none 0 0)).setCell (p := ⟨r, 1, none⟩) HBR.out (.slice none 0 0))
    generalize (w3.setCell ⟨r, 0, none⟩ (.slice none 0 0)).setCell ⟨r, 1, none⟩ (.slice none 0 0) = wf at *
    clear q0 q1 p0 p1
    rw [HQ.out]
    exact bodyPost_ret (v := .tuple #[.agg #[.slice none 0 0, .slice none 0 0], .bool false]) (by simp [results, Tryz.results16, go_sem, f0, f1]) rfl ⟨⟨_, _, _, _, _, _, rfl, Row.nil _ _, Row.nil _ _⟩, HF2.out⟩
  | some n =>
    have HQ : Hid (R = atL (ts.map (·.1)) n) := by show _ = _; rw [HD.out, hq]; rfl
    clear hq
    simp only [Option.getD_some, Option.isSome_some]
    have x0 := (cells_at HX.out 0).1
    simp only [List.getElem?_toArray, List.getElem?_cons_zero] at x0
    go_wp2_with fail
    clear x0
    refine (at_fn HT.out).mono ?_
    rw [← HQ.out]
    rintro e w4 ⟨⟨P5, n5, c5, Q5, m5, d5, rfl, hr1, hr2⟩, hb⟩
    have HBn := Lib.hid (hb.trans ((below_new w4 (.cells #[.slice P5 n5 c5, .slice Q5 m5 d5] 51)).mono hb.size))
    have HB5 := Lib.hid (HB2.out.trans (HBn.out.mono HB2.out.size))
    have H1 := Lib.hid (hr1.keep (below_new w4 (.cells #[.slice P5 n5 c5, .slice Q5 m5 d5] 51)))
    have H2 := Lib.hid (hr2.keep (below_new w4 (.cells #[.slice P5 n5 c5, .slice Q5 m5 d5] 51)))
    have HY := Lib.hid (heap_new w4 (.cells #[.slice P5 n5 c5, .slice Q5 m5 d5] 51))
    have HR5 := Lib.hid (blk HR.out HBn.out)
    have HRl : Hid (r < w4.heap.size) := Nat.lt_of_lt_of_le (lt_of_heap HR.out) hb.size
    clear hb hr1 hr2
    go_wp2_with fail
    generalize w4.alloc (.cells #[.slice P5 n5 c5, .slice Q5 m5 d5] 51) = w5 at *
    obtain ⟨y, hy⟩ : ∃ y, w4.heap.size = y := ⟨_, rfl⟩
    rw [hy] at HY HRl
    simp only [hy]
    clear hy
    generalize R.isSome = ok at *
    obtain ⟨n1, hn1⟩ : ∃ n, (R.getD ([], [])).1.length = n := ⟨_, rfl⟩
    obtain ⟨n2, hn2⟩ : ∃ n, (R.getD ([], [])).2.length = n := ⟨_, rfl⟩
    have HN1 := Lib.hid hn1
    have HN2 := Lib.hid hn2
    have HL1 : Hid ((R.getD ([], [])).1.length ≤ 1000000) := Nat.le_trans HTB.out.1 (by omega)
    have HL2 : Hid ((R.getD ([], [])).2.length ≤ 1000000) := Nat.le_trans HTB.out.2 (by omega)
    have HD5 := Lib.hid (below_drew1 w5)
    obtain ⟨y0, y1⟩ := cells2 HY.out
    have hyl : y < w5.heap.size := lt_of_heap HY.out
    have HYL : Hid (y < w5.heap.size) := hyl
    clear hn1 hn2
    go_region_law (first
      | (go_simp; go_at_call 44; (with_reducible refine Calls.mono (clone_any (H2.out.keep HBP.out) HL2.out) ?_); rintro e w7 ⟨⟨v7, rfl, ho7⟩, hb7⟩; obtain ⟨A2, k2, hv7⟩ := Own.form ho7; rw [HN2.out] at hv7; subst hv7; have HF1 := Lib.hid (own_keep HoP.out hb7); have HF2 := Lib.hid (own_low ho7 HBP.out.size); have HB7 := Lib.hid (HBP.out.trans (hb7.mono HBP.out.size)); obtain ⟨r0, r1⟩ := cells2 (blk HR5.out HB7.out); have rp0 := (cells_at (blk HR5.out HB7.out) 0).2; have rp1 := (cells_at (blk HR5.out HB7.out) 1).2; have hrl := lt_of_heap (blk HR5.out HB7.out); obtain ⟨s0, s1⟩ := cells2 (blk HY.out HB7.out); clear ho7 hb7)
      | (go_simp; go_at_call 44; (with_reducible refine Calls.mono (clone_any (H1.out.keep HBQ.out) HL1.out) ?_); rintro e w7 ⟨⟨v7, rfl, ho7⟩, hb7⟩; obtain ⟨A1, k1, hv7⟩ := Own.form ho7; rw [HN1.out] at hv7; subst hv7; have HF2 := Lib.hid (own_keep HoQ.out hb7); have HF1 := Lib.hid (own_low ho7 HBQ.out.size); have HB7 := Lib.hid (HBQ.out.trans (hb7.mono HBQ.out.size)); obtain ⟨r0, r1⟩ := cells2 (blk HR5.out HB7.out); have rp0 := (cells_at (blk HR5.out HB7.out) 0).2; have rp1 := (cells_at (blk HR5.out HB7.out) 1).2; have hrl := lt_of_heap (blk HR5.out HB7.out); obtain ⟨s0, s1⟩ := cells2 (blk HY.out HB7.out); clear ho7 hb7)
      | (go_simp; go_at_call 44; (with_reducible refine Calls.mono (clone_any (H1.out.keep HD5.out) HL1.out) ?_); rintro e wP ⟨⟨v7, rfl, hoP⟩, hbP⟩; obtain ⟨A1, k1, hv7⟩ := Own.form hoP; rw [HN1.out] at hv7; subst hv7; have HoP := Lib.hid (own_low hoP HD5.out.size); have HBP := Lib.hid (HD5.out.trans (hbP.mono HD5.out.size)); obtain ⟨s0, s1⟩ := cells2 (blk HY.out HBP.out); clear hoP hbP)
      | (go_simp; go_at_call 44; (with_reducible refine Calls.mono (clone_any (H2.out.keep HD5.out) HL2.out) ?_); rintro e wQ ⟨⟨v7, rfl, hoQ⟩, hbQ⟩; obtain ⟨A2, k2, hv7⟩ := Own.form hoQ; rw [HN2.out] at hv7; subst hv7; have HoQ := Lib.hid (own_low hoQ HD5.out.size); have HBQ := Lib.hid (HD5.out.trans (hbQ.mono HD5.out.size)); obtain ⟨s0, s1⟩ := cells2 (blk HY.out HBQ.out); clear hoQ hbQ))
    all_goals (
      have HR7 := Lib.hid (blk HR5.out HB7.out)
      have HBf := Lib.hid (HB5.out.trans (HB7.out.mono HB5.out.size))
      obtain ⟨f0, f1⟩ := cells2 (store2 HR7.out (.slice A1 n1 k1) (.slice A2 n2 k2))
      have HF := Lib.hid ((HBf.out.setCell (p := ⟨r, 0, none⟩) HBR.out (.slice A1 n1 k1)).setCell (p := ⟨r, 1, none⟩) HBR.out (.slice A2 n2 k2))
      have HO1 := Lib.hid (own_stay HF1.out (w' := (w7.setCell ⟨r, 0, none⟩ (.slice A1 n1 k1)).setCell ⟨r, 1, none⟩ (.slice A2 n2 k2)) fun kk hkk => chg2 w7 r _ _ kk (World.ownsRow.lt HF1.out kk hkk).2 (by intro e; exact own_notB HF1.out HR7.out (by decide) hkk (Option.some.inj e)))
      have HO2 := Lib.hid (own_stay HF2.out (w' := (w7.setCell ⟨r, 0, none⟩ (.slice A1 n1 k1)).setCell ⟨r, 1, none⟩ (.slice A2 n2 k2)) fun kk hkk => chg2 w7 r _ _ kk (World.ownsRow.lt HF2.out kk hkk).2 (by intro e; exact own_notB HF2.out HR7.out (by decide) hkk (Option.some.inj e)))
      generalize (w7.setCell ⟨r, 0, none⟩ (.slice A1 n1 k1)).setCell ⟨r, 1, none⟩ (.slice A2 n2 k2) = wf at *
      clear r0 r1 rp0 rp1 s0 s1 y0 y1 hyl hrl
      go_wp2_with fail
      exact bodyPost_ret (v := .tuple #[.agg #[.slice A1 n1 k1, .slice A2 n2 k2], .bool ok]) (by simp [results, Tryz.results16, go_sem, f0, f1]) rfl ⟨⟨_, _, _, _, _, _, rfl, Own.row HO1.out (fun p hp => H1.out.2 p hp), Own.row HO2.out (fun p hp => H2.out.2 p hp)⟩, HF.out⟩)
end Go.Proofs.YtlappkflnlbfcaaGreatDoor.Chk
end
