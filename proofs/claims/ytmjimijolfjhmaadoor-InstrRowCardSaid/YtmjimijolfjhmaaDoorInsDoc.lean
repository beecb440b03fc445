/- The document's Read. -/
import Derived.Test.YtmjimijolfjhmaaDoorInsRead
namespace Go.Proofs.YtmjimijolfjhmaaDoor.Ins
open Go.RowKit Ints Typ
set_option maxRecDepth 100000
set_option maxHeartbeats 2000000

def NoIns : Value := .agg #[.int .i64 0, .int .i64 0, .int .i64 0, .int .u64 0, .slice none 0 0]
theorem rread_low (A : Option Addr) (n c : Nat) (at_ : Int) (w : World) (h1 : decide (at_ < 0) = true) : Calls Tryd.prog 12 #[.slice A n c, .int .i64 at_] w fun en w' => en = .returned (.tuple #[NoIns, .int .i64 0, .int .i64 1]) ∧ Below w.heap.size w w' := by
  go_enter Tryd.func12, Tryd.ntmps12
  go_wp2_with fail
  refine bodyPost_ret (v := .tuple #[NoIns, .int .i64 0, .int .i64 1]) (by simp [results, Tryd.results12, go_sem, NoIns]) rfl ⟨rfl, ?_⟩
  exact (Below.refl _ _).alloc (Nat.le_refl _) _
theorem rread_high (A : Option Addr) (n c : Nat) (at_ : Int) (w : World) (h1 : decide (at_ < 0) = false) (h2 : decide ((n : Int) < at_) = true) : Calls Tryd.prog 12 #[.slice A n c, .int .i64 at_] w fun en w' => en = .returned (.tuple #[NoIns, .int .i64 0, .int .i64 1]) ∧ Below w.heap.size w w' := by
  go_enter Tryd.func12, Tryd.ntmps12
  go_wp2_with fail
  refine bodyPost_ret (v := .tuple #[NoIns, .int .i64 0, .int .i64 1]) (by simp [results, Tryd.results12, go_sem, NoIns]) rfl ⟨rfl, ?_⟩
  exact (Below.refl _ _).alloc (Nat.le_refl _) _
theorem RdAt.at_ (w : World) (g : Nat) (v : Value) (a e : Int) (t : TypeId) (hh : g = w.heap.size) : RdAt (w.alloc (.cells #[v, .int .i64 a, .int .i64 e] t)) g v a e := by
  subst hh
  exact ⟨by simp, by simp, by simp, by simp, by simp, by simp, by simp⟩
/-- An instruction, a place, an error: told. -/
def RiTold (x : Ins × Int × Int) (w : World) (en : Ending) (w' : World) : Prop :=
  ∃ o, en = .returned (.tuple #[.agg #[.int .i64 x.1.op, .int .i64 x.1.A, .int .i64 x.1.B, .int .u64 x.1.K, o], .int .i64 x.2.1, .int .i64 x.2.2]) ∧ OwnI w' w.heap.size o x.1.L ∧ Below w.heap.size w w'
theorem rread_core (A : Option Addr) (c a n : Nat) (l : List Int) (w : World) (op X B K e : Int) (L : List Int) (h1 : decide ((a : Int) < 0) = false) (h3 : decide (l.length < a) = false) (g : Nat) (hg : g = w.heap.size + 1)
    (hR : ∀ W, Below w.heap.size w W → RdAt W g (.slice A l.length c) (a : Int) 0 → Calls Tryd.prog 25 #[.pointer (some ⟨g, 0, none⟩)] W (InTold (.slice A l.length c) g op X B K L n e W)) (d : Ins × Int × Int)
    (hd : (e = 0 ∧ d = (⟨op, X, B, K, L⟩, (n : Int), 0)) ∨ (e ≠ 0 ∧ d = (⟨0, 0, 0, 0, []⟩, 0, e))) :
    Calls Tryd.prog 12 #[.slice A l.length c, .int .i64 (a : Int)] w (RiTold d w) := by
  subst hg
  have HH := Lib.hid hR
  clear hR
  go_enter Tryd.func12, Tryd.ntmps12
  go_wp2_with fail
  have HB1 := Lib.hid (((Below.refl w.heap.size w).alloc (Nat.le_refl _) (.cells #[.int .i64 0, .int .i64 0, .int .i64 0, .int .u64 0, .slice none 0 0] 26)).alloc (by simp) (.cells #[.slice A l.length c, .int .i64 (a : Int), .int .i64 0] 51))
  refine (HH.out _ HB1.out (RdAt.at_ _ _ _ _ _ _ (by simp))).mono ?_
  rintro en w2 ⟨o, rfl, hown, hrd, hbut⟩
  obtain ⟨P, cc, rfl⟩ := hown.form
  have HO := Lib.hid (((InAt.at_ w w.heap.size 0 0 0 0 (.slice none 0 0) 26 rfl).keep ((Below.refl _ _).alloc (Nat.le_refl _) (.cells #[.slice A l.length c, .int .i64 (a : Int), .int .i64 0] 51))).but hbut (by omega))
  have HB := Lib.hid (HB1.out.trans (hbut.below (by omega) (by simp)))
  have HR := Lib.hid hrd
  have HW := Lib.hid (hown.mono (B' := w.heap.size + 1) (by simp))
  obtain ⟨r0, rc0, rc1, rc2, rf0, rf1, rf2⟩ := hrd
  clear hown hbut
  rcases hd with ⟨rfl, rfl⟩ | ⟨he, rfl⟩
  · go_wp2_with fail
    have HI3 := InAt.at_ w2 w2.heap.size op X B K (.slice P L.length cc) 26 rfl
    have HR3 := HR.out.keep ((Below.refl _ _).alloc (Nat.le_refl _) (.cells #[.int .i64 op, .int .i64 X, .int .i64 B, .int .u64 K, .slice P L.length cc] 26))
    have HO3 := HO.out.keep ((Below.refl _ _).alloc (Nat.le_refl _) (.cells #[.int .i64 op, .int .i64 X, .int .i64 B, .int .u64 K, .slice P L.length cc] 26))
    have HW3 := HW.out.keep ((Below.refl _ _).alloc (Nat.le_refl _) (.cells #[.int .i64 op, .int .i64 X, .int .i64 B, .int .u64 K, .slice P L.length cc] 26))
    have HB3 := HB.out.alloc (Nat.le_of_lt HO.out.lt) (.cells #[.int .i64 op, .int .i64 X, .int .i64 B, .int .u64 K, .slice P L.length cc] 26)
    have hq1 : w2.heap.size ≠ w.heap.size := Nat.ne_of_gt HO.out.lt
    have hq2 : w2.heap.size ≠ w.heap.size + 1 := Nat.ne_of_gt r0
    clear rc0 rc1 rc2 rf0 rf1 rf2 r0 HR HO HW HB HB1
    generalize w2.alloc (.cells #[.int .i64 op, .int .i64 X, .int .i64 B, .int .u64 K, .slice P L.length cc] 26) = w3 at *
    generalize w2.heap.size = q at *
    have hq3 := Ne.symm hq1
    have hq4 := Ne.symm hq2
    have HB4 := Lib.hid HB3
    have HW4 := Lib.hid HW3
    obtain ⟨r0, rc0, rc1, rc2, rf0, rf1, rf2⟩ := HR3
    obtain ⟨o0, oc0, oc1, oc2, oc3, oc4, of0, of1, of2, of3, of4⟩ := HO3
    obtain ⟨i0, ic0, ic1, ic2, ic3, ic4, if0, if1, if2, if3, if4⟩ := HI3
    clear HB3 HW3
    go_region
    all_goals go_wp2_with fail
    all_goals (
      have hb := (((((HB4.out.setCell (p := ⟨w.heap.size, 0, none⟩) (Nat.le_refl _) (.int .i64 op)).setCell (p := ⟨w.heap.size, 1, none⟩) (Nat.le_refl _) (.int .i64 X)).setCell (p := ⟨w.heap.size, 2, none⟩) (Nat.le_refl _) (.int .i64 B)).setCell (p := ⟨w.heap.size, 3, none⟩) (Nat.le_refl _) (.int .u64 K)).setCell (p := ⟨w.heap.size, 4, none⟩) (Nat.le_refl _) (.slice P L.length cc))
      refine bodyPost_ret (v := .tuple #[.agg #[.int .i64 op, .int .i64 X, .int .i64 B, .int .u64 K, .slice P L.length cc], .int .i64 (n : Int), .int .i64 0]) (by simp [results, Tryd.results12, go_sem, oc0, oc1, oc2, oc3, oc4]) rfl ⟨_, rfl, (((((((HW4.out.far (p := ⟨w.heap.size, 0, none⟩) (Nat.lt_succ_self _) _).far (p := ⟨w.heap.size, 1, none⟩) (Nat.lt_succ_self _) _).far (p := ⟨w.heap.size, 2, none⟩) (Nat.lt_succ_self _) _).far (p := ⟨w.heap.size, 3, none⟩) (Nat.lt_succ_self _) _).far (p := ⟨w.heap.size, 4, none⟩) (Nat.lt_succ_self _) _).keep (drewB _)).mono (Nat.le_succ _)), hb.trans ((drewB _).mono hb.size)⟩)
  · have t1 : (e != 0) = true := by simpa using he
    go_wp2_with fail
    have HI3 := InAt.at_ w2 w2.heap.size op X B K (.slice P L.length cc) 26 rfl
    have HR3 := HR.out.keep ((Below.refl _ _).alloc (Nat.le_refl _) (.cells #[.int .i64 op, .int .i64 X, .int .i64 B, .int .u64 K, .slice P L.length cc] 26))
    have HO3 := HO.out.keep ((Below.refl _ _).alloc (Nat.le_refl _) (.cells #[.int .i64 op, .int .i64 X, .int .i64 B, .int .u64 K, .slice P L.length cc] 26))
    have HW3 := HW.out.keep ((Below.refl _ _).alloc (Nat.le_refl _) (.cells #[.int .i64 op, .int .i64 X, .int .i64 B, .int .u64 K, .slice P L.length cc] 26))
    have HB3 := HB.out.alloc (Nat.le_of_lt HO.out.lt) (.cells #[.int .i64 op, .int .i64 X, .int .i64 B, .int .u64 K, .slice P L.length cc] 26)
    have hq1 : w2.heap.size ≠ w.heap.size := Nat.ne_of_gt HO.out.lt
    have hq2 : w2.heap.size ≠ w.heap.size + 1 := Nat.ne_of_gt r0
    clear rc0 rc1 rc2 rf0 rf1 rf2 r0 HR HO HW HB HB1
    generalize w2.alloc (.cells #[.int .i64 op, .int .i64 X, .int .i64 B, .int .u64 K, .slice P L.length cc] 26) = w3 at *
    generalize w2.heap.size = q at *
    have hq3 := Ne.symm hq1
    have hq4 := Ne.symm hq2
    have HB4 := Lib.hid HB3
    have HW4 := Lib.hid HW3
    obtain ⟨r0, rc0, rc1, rc2, rf0, rf1, rf2⟩ := HR3
    obtain ⟨o0, oc0, oc1, oc2, oc3, oc4, of0, of1, of2, of3, of4⟩ := HO3
    obtain ⟨i0, ic0, ic1, ic2, ic3, ic4, if0, if1, if2, if3, if4⟩ := HI3
    clear HB3 HW3
    go_region
    all_goals go_wp2_with fail
    all_goals (
      have hb := (((((HB4.out.setCell (p := ⟨w.heap.size, 0, none⟩) (Nat.le_refl _) (.int .i64 0)).setCell (p := ⟨w.heap.size, 1, none⟩) (Nat.le_refl _) (.int .i64 0)).setCell (p := ⟨w.heap.size, 2, none⟩) (Nat.le_refl _) (.int .i64 0)).setCell (p := ⟨w.heap.size, 3, none⟩) (Nat.le_refl _) (.int .u64 0)).setCell (p := ⟨w.heap.size, 4, none⟩) (Nat.le_refl _) (.slice none 0 0))
      refine bodyPost_ret (v := .tuple #[NoIns, .int .i64 0, .int .i64 e]) (by simp [NoIns, results, Tryd.results12, go_sem, oc0, oc1, oc2, oc3, oc4]) rfl ⟨_, rfl, ownI_nil _ _, hb.trans ((drewB _).mono hb.size)⟩)
/-- What stands at a place, by the document. -/
def rdo (l : List Int) (at_ : Int) : Ins × Int × Int :=
  if at_ < 0 ∨ (l.length : Int) < at_ then (⟨0, 0, 0, 0, []⟩, 0, 1)
  else if (ri l at_.toNat 0).2.2 = 0 then ((ri l at_.toNat 0).1, ((ri l at_.toNat 0).2.1 : Nat), 0) else (⟨0, 0, 0, 0, []⟩, 0, (ri l at_.toNat 0).2.2)
theorem rread_any {v : Value} {l : List Int} {w : World} (at_ : Int) (hs : Sl w v l) (hb : ∀ x ∈ l, 0 ≤ x ∧ x < 256) (hl : l.length ≤ 1000000) : Calls Tryd.prog 12 #[v, .int .i64 at_] w (RiTold (rdo l at_) w) := by
  obtain ⟨A, c, hv, _⟩ := id hs
  subst hv
  unfold rdo
  by_cases h0 : at_ < 0
  · rw [if_pos (.inl h0)]
    exact (rread_low A _ c at_ w (decide_eq_true h0)).mono fun e w' ⟨k1, k2⟩ => ⟨_, k1, ownI_nil _ _, k2⟩
  · by_cases h1 : (l.length : Int) < at_
    · rw [if_pos (.inr h1)]
      exact (rread_high A _ c at_ w (decide_eq_false h0) (decide_eq_true h1)).mono fun e w' ⟨k1, k2⟩ => ⟨_, k1, ownI_nil _ _, k2⟩
    · rw [if_neg (by omega)]
      obtain ⟨a, rfl⟩ : ∃ a : Nat, at_ = (a : Int) := ⟨at_.toNat, by omega⟩
      rw [Int.toNat_natCast]
      have hR : ∀ W, Below w.heap.size w W → RdAt W (w.heap.size + 1) (.slice A l.length c) (a : Int) 0 → Calls Tryd.prog 25 #[.pointer (some ⟨w.heap.size + 1, 0, none⟩)] W (InsTold (.slice A l.length c) (w.heap.size + 1) (ri l a 0) W) := fun W hW hrd =>
        instr_any (w0 := w) ⟨hs, hb, hl, by omega, Nat.le_succ _, hW, hrd⟩
      refine rread_core A c a _ l w _ _ _ _ _ _ (decide_eq_false h0) (by simp; omega) _ rfl hR _ ?_
      by_cases he : (ri l a 0).2.2 = 0
      · rw [if_pos he]
        exact .inl ⟨he, rfl⟩
      · rw [if_neg he]
        exact .inr ⟨he, rfl⟩
end Go.Proofs.YtmjimijolfjhmaaDoor.Ins
