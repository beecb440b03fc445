/- What operator makes, whatever the order in which its two variables come to be. -/
import Derived.Test.YtoclfldmkipokaaDoorIntsOper
namespace Go.Proofs.YtoclfldmkipokaaDoor.Ints
open Go.RowKit
set_option maxRecDepth 100000
set_option maxHeartbeats 1000000

/-- An operator's closure. -/
def Opr (t l : Int) (F : Value) (w : World) : Prop := ∃ k caps cs, F = .func (.func k) #[] caps ∧ Stab.FnOk Tryd.prog k ∧ Cells cs w ∧
  ∀ W a b, Cells cs W → Tab W → u64R a → u64R b → Calls Tryd.prog k (#[.int .u64 a, .int .u64 b] ++ caps) W fun e w' => e = .returned (.tuple #[.int .u64 (opV t l a b), .int .i64 (trT t l (loT t a) (loT t b))]) ∧ Still W w'
/-- A new variable that holds x. -/
def New (B : Nat) (x v : Value) (w : World) : Prop := ∃ p : Nat, v = .pointer (some ⟨p, 0, none⟩) ∧ B ≤ p ∧ p < w.heap.size ∧ w.cell? ⟨p, 0, none⟩ = some x ∧ w.frozen? ⟨p, 0, none⟩ = false
theorem New.stays {B : Nat} {x : Value} : Stab.Stays (New B x) := fun _ _ _ ⟨p, h1, h2, h3, h4, h5⟩ hb => ⟨p, h1, h2, Nat.lt_of_lt_of_le h3 hb.size, by rw [hb.cell h3]; exact h4, by rw [hb.frozen h3]; exact h5⟩
theorem Cells.drew {cs : List (Addr × Value)} {w : World} (h : Cells cs w) (n : Nat) : Cells cs (w.drewN n) := fun pv hp => by rw [drewN_cell]; exact h pv hp
theorem Cells.append {cs ds : List (Addr × Value)} {w : World} (h : Cells (cs ++ ds) w) : Cells cs w ∧ Cells ds w := ⟨fun pv hp => h pv (by simp [hp]), fun pv hp => h pv (by simp [hp])⟩
/-- What stands in the four variables, and the rule's own. -/
theorem opr_of {t l : Int} (ht : isT t) {F : Value} {p5 p6 : Nat} {w : World} {a2 a3 : Addr} (hF : Rule t l F w) (n5 : w.cell? ⟨p5, 0, none⟩ = some .nilFunc) (n6 : w.cell? ⟨p6, 0, none⟩ = some (.int .u8 0))
    (c2 : w.cell? a2 = some (.int .u8 t)) (c3 : w.cell? a3 = some (.int .i64 l)) :
    Opr t l (.func (.func 41) #[] #[.pointer (some a2), .pointer (some a3), .pointer (some ⟨p6, 0, none⟩), .pointer (some ⟨p5, 0, none⟩)]) ((w.setCell ⟨p5, 0, none⟩ F).setCell ⟨p6, 0, none⟩ (.int .u8 (gvT t l))) := by
  obtain ⟨k, caps, cs, rfl, hk, hC, hO, hR⟩ := hF
  have h56 : (⟨p5, 0, none⟩ : Addr) ≠ ⟨p6, 0, none⟩ := fun h => by rw [h, n6] at n5; simp at n5
  have o5 : ∀ q v, w.cell? q = some v → v ≠ .nilFunc → (⟨p5, 0, none⟩ : Addr) ≠ q := fun q v h h1 h2 => h1 (by rw [← h2, n5] at h; simpa using h.symm)
  have o6 : ∀ q v, w.cell? q = some v → v ≠ .int .u8 0 → (⟨p6, 0, none⟩ : Addr) ≠ q := fun q v h h1 h2 => h1 (by rw [← h2, n6] at h; simpa using h.symm)
  have keep : ∀ q v x y, w.cell? q = some v → v ≠ .nilFunc → v ≠ .int .u8 0 → ((w.setCell ⟨p5, 0, none⟩ x).setCell ⟨p6, 0, none⟩ y).cell? q = some v := fun q v x y h h1 h2 => by
    rw [World.cell?_setCell_other _ _ _ _ (o6 q v h h2), World.cell?_setCell_other _ _ _ _ (o5 q v h h1)]; exact h
  have e6 : ∀ x, (w.setCell ⟨p5, 0, none⟩ x).cell? ⟨p6, 0, none⟩ = some (.int .u8 0) := fun x => by rw [World.cell?_setCell_other _ _ _ _ h56]; exact n6
  refine ⟨41, _, (a2, .int .u8 t) :: (a3, .int .i64 l) :: (⟨p6, 0, none⟩, .int .u8 (gvT t l)) :: (⟨p5, 0, none⟩, .func (.func k) #[] caps) :: cs, rfl, ⟨_, Tryd.func41, by kernel_rfl, by kernel_rfl⟩, ?_, ?_⟩
  · refine .cons (keep _ _ _ _ c2 (by simp) (isT_ne ht)) (.cons (keep _ _ _ _ c3 (by simp) (by simp)) (.cons (World.cell?_setCell_same _ _ _ (e6 _)) (.cons ?_ fun pv hp => keep _ _ _ _ (hC pv hp) (hO pv hp).2.1 (hO pv hp).2.2)))
    rw [World.cell?_setCell_other _ _ _ _ h56.symm]
    exact World.cell?_setCell_same _ _ _ n5
  · intro W a b hW hT ha hb
    by_cases htr : trT t l (loT t a) (loT t b) = 0
    · exact oper1_none a2 a3 _ _ t l a b W k caps ht ha hb hW.head hW.tail.head hW.tail.tail.head hW.tail.tail.tail.head hk (fun n x y hA => hR (W.drewN n) x y (hW.tail.tail.tail.tail.drew n) (hT.drew n) hA) htr
    · exact oper1_trap a2 a3 _ _ t l a b W ht ha hb hW.head hW.tail.head htr

theorem operator_any (t l : Int) (w : World) (ht : isT t) (hl : isL l) : Calls Tryd.prog 31 #[.int .u8 t, .int .i64 l] w (Gives (Opr t l) w) := by
  have HT := Lib.hid ht
  have HL := Lib.hid hl
  clear ht hl
  have hmf := mkf
  have hst := run_stf
  go_enter Tryd.func31, Tryd.ntmps31
  go_wp2_with fail
  have HB : Hid (Below w.heap.size w ((w.alloc (.cells #[.int .u8 t] 5)).alloc (.cells #[.int .i64 l] 3))) := ((Below.refl _ _).alloc (Nat.le_refl _) _).alloc (by simp) _
  have HC2 : Hid (((w.alloc (.cells #[.int .u8 t] 5)).alloc (.cells #[.int .i64 l] 3)).cell? ⟨w.heap.size, 0, none⟩ = some (.int .u8 t)) := by show _ = _; simp [go_sem]
  have HC3 : Hid (((w.alloc (.cells #[.int .u8 t] 5)).alloc (.cells #[.int .i64 l] 3)).cell? ⟨w.heap.size + 1, 0, none⟩ = some (.int .i64 l)) := by show _ = _; simp [go_sem]
  have hs : ((w.alloc (.cells #[.int .u8 t] 5)).alloc (.cells #[.int .i64 l] 3)).heap.size = w.heap.size + 2 := by simp
  revert HB HC2 HC3 hs
  generalize ((w.alloc (.cells #[.int .u8 t] 5)).alloc (.cells #[.int .i64 l] 3)) = w0
  intro HB HC2 HC3 hs
  have HS := Lib.hid hs
  clear hs
  refine Stab.region_tail 8 14 [.is (.int .u8 t), .is (.int .i64 l), .fits (Rule t l), .is (.int .u8 t), .is (.int .i64 l), .is (.int .u8 (gvT t l)), .fits (New w0.heap.size .nilFunc), .fits (New w0.heap.size (.int .u8 0))] (by kernel_rfl) (by kernel_rfl) (by kernel_rfl) (by kernel_rfl) rfl rfl ?_ ?_
  · simp only [List.take_succ_cons, List.take_zero]
    repeat' (first | exact Stab.steps_nil | with_reducible refine Stab.steps_cons ?_ ?_ ?_)
    all_goals first
      | exact trivial
      | exact Rule.stays
      | exact New.stays
      | (refine Stab.owes_load rfl (fun x W hb hx => ?_) rfl; obtain rfl : x = .pointer (some ⟨w.heap.size, 0, none⟩) := hx; have h := (hb.cell (p := ⟨w.heap.size, 0, none⟩) (by show w.heap.size < _; rw [HS.out]; omega)).trans HC2.out; go_simp; done)
      | (refine Stab.owes_load rfl (fun x W hb hx => ?_) rfl; obtain rfl : x = .pointer (some ⟨w.heap.size + 1, 0, none⟩) := hx; have h := (hb.cell (p := ⟨w.heap.size + 1, 0, none⟩) (by show w.heap.size + 1 < _; rw [HS.out]; omega)).trans HC3.out; go_simp; done)
      | (refine Stab.owes_call Tryd.func40 (by kernel_rfl) (by kernel_rfl) rfl (fun vs W hb hall => ?_) rfl; obtain ⟨_, _, rfl, rfl, _, _, rfl, rfl, rfl⟩ := hall; refine (ruleOf_any t l W HT.out HL.out).mono ?_; rintro e w2 ⟨F, rfl, hF, hb2⟩; exact ⟨F, rfl, hb2, hF⟩)
      | (refine Stab.owes_call Tryd.func28 (by kernel_rfl) (by kernel_rfl) rfl (fun vs W hb hall => ?_) rfl; obtain ⟨_, _, rfl, rfl, _, _, rfl, rfl, rfl⟩ := hall; refine (given_any t l W).mono ?_; rintro e w2 ⟨rfl, rfl⟩; exact ⟨_, rfl, Below.refl _ _, rfl⟩)
      | (refine Stab.owes_alloc rfl (fun W hb => ?_) rfl; go_simp; exact ⟨below_box W _, W.heap.size, rfl, hb.size, by simp, by simp [go_sem], by simp [go_sem]⟩)
  · simp only [List.take_succ_cons, List.take_zero, List.drop_succ_cons, List.drop_zero]
    intro F v5 v6 W hb hI
    obtain ⟨⟨p6, rfl, b6, l6, n6, f6⟩, ⟨p5, rfl, b5, l5, n5, f5⟩, hF, _⟩ := hI
    have HFF := Lib.hid hF
    obtain ⟨k, caps, cs, rfl, _⟩ := hF
    have h56 : (⟨p5, 0, none⟩ : Addr) ≠ ⟨p6, 0, none⟩ := fun h => by rw [h, n6] at n5; simp at n5
    have e6 : (W.setCell ⟨p5, 0, none⟩ (.func (.func k) #[] caps)).cell? ⟨p6, 0, none⟩ = some (.int .u8 0) := by rw [World.cell?_setCell_other _ _ _ _ h56]; exact n6
    have HC2' := Lib.hid ((hb.cell (p := ⟨w.heap.size, 0, none⟩) (by show w.heap.size < _; rw [HS.out]; omega)).trans HC2.out)
    have HC3' := Lib.hid ((hb.cell (p := ⟨w.heap.size + 1, 0, none⟩) (by show w.heap.size + 1 < _; rw [HS.out]; omega)).trans HC3.out)
    have HN5 := Lib.hid n5
    have HN6 := Lib.hid n6
    have HW : Hid (Below w.heap.size w ((W.setCell ⟨p5, 0, none⟩ (.func (.func k) #[] caps)).setCell ⟨p6, 0, none⟩ (.int .u8 (gvT t l)))) :=
      ((HB.out.trans (hb.mono HB.out.size)).setCell (p := ⟨p5, 0, none⟩) (Nat.le_trans HB.out.size b5) _).setCell (p := ⟨p6, 0, none⟩) (Nat.le_trans HB.out.size b6) _
    clear h56 b5 b6
    simp only [Act.put, List.setIfInBounds_toArray, List.set_cons_succ, List.set_cons_zero]
    go_wp2
    go_ret
    exact ⟨_, rfl, opr_of HT.out HFF.out HN5.out HN6.out HC2'.out HC3'.out, HW.out⟩
end Go.Proofs.YtoclfldmkipokaaDoor.Ints
