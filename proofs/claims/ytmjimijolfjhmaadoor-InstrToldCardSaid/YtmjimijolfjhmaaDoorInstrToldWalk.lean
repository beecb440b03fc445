/- InstrTold walked: what is told may be, is of its kind, and is laid in no more bytes than it stood in. -/
import Derived.Test.YtmjimijolfjhmaaDoorInsPAwake
import Derived.Test.YtmjimijolfjhmaaDoorInsTold
import Derived.Test.YtmjimijolfjhmaaDoorInsStab
namespace Go.Proofs.YtmjimijolfjhmaaDoor.Ins
open Go.RowKit Ints Typ
set_option maxRecDepth 100000
set_option maxHeartbeats 2000000
set_option linter.unusedVariables false

theorem itold_big (A : Option Addr) (n c : Nat) (w : World) (t1 : decide ((500 : Int) < (n : Int)) = true) (hK : KTab w) :
    Calls Tryd.prog 5 #[.slice A n c] w fun e w' => e = .returned (.bool true) ∧ Below w.heap.size w w' := by
  go_enter Tryd.func5, Tryd.ntmps5
  go_wp2_with fail
  refine (awake_any _ hK).mono ?_
  rintro e w1 ⟨rfl, hb1⟩
  go_wp2_with fail
  go_ret
  exact ⟨rfl, hb1⟩
theorem itold_no (A : Option Addr) (n c : Nat) (E : Int) (w : World) (t1 : decide ((500 : Int) < (n : Int)) = false) (tE : (E != 0) = true) (hK : KTab w)
    (hR : ∀ W, Below w.heap.size w W → Calls Tryd.prog 11 #[.slice A n c, .int .i64 0] W (RiTold (⟨0, 0, 0, 0, []⟩, 0, E) W)) :
    Calls Tryd.prog 5 #[.slice A n c] w fun e w' => e = .returned (.bool true) ∧ Below w.heap.size w w' := by
  have HR := Lib.hid hR
  have HS : Hid (∀ W o, SlI W o [] → Calls Tryd.prog 20 #[.agg #[.int .i64 0, .int .i64 0, .int .i64 0, .int .u64 0, o], .agg #[.int .i64 0, .int .i64 0, .int .i64 0, .int .u64 0, .slice none 0 0]] W fun e w' => e = .returned (.bool true) ∧ Below W.heap.size W w') := fun W o ho => by
    have := psame_any (x := ⟨0, 0, 0, 0, []⟩) (y := ⟨0, 0, 0, 0, []⟩) ho (SlI.nil W)
    rw [show smI ⟨0, 0, 0, 0, []⟩ ⟨0, 0, 0, 0, []⟩ = true from by decide] at this
    exact this
  clear hR
  go_enter Tryd.func5, Tryd.ntmps5
  go_wp2_with fail
  refine (awake_any _ hK).mono ?_
  rintro e w1 ⟨rfl, hb1⟩
  have HW := Lib.hid hb1
  clear hb1
  go_wp2_with fail
  refine (HR.out _ HW.out).mono ?_
  rintro e w2 ⟨o, rfl, ho, hb⟩
  obtain ⟨P, cL, rfl⟩ := ho.form
  have HO := Lib.hid (OwnI.slI ho)
  have HW := Lib.hid (HW.out.trans (hb.mono HW.out.size))
  clear hb ho
  have HT := Lib.hid ((Below.refl w2.heap.size w2).alloc (Nat.le_refl _) (.cells #[.int .i64 0, .int .i64 0, .int .i64 0, .int .u64 0, .slice P 0 cL] 26))
  have HI := Lib.hid (InAt.at_ w2 w2.heap.size 0 0 0 0 (.slice P 0 cL) 26 rfl)
  obtain ⟨_, q1, q2, q3, q4, q5, _, _, _, _, _⟩ := HI.out
  go_wp2_with fail
  refine (HS.out _ _ (HO.out.keep HT.out)).mono ?_
  rintro e w3 ⟨rfl, hb⟩
  have HW := Lib.hid ((HW.out.trans (HT.out.mono HW.out.size)).trans (hb.mono (HW.out.trans (HT.out.mono HW.out.size)).size))
  clear hb
  go_wp2_with fail
  go_ret
  exact ⟨rfl, HW.out⟩
theorem itold_ok (x : Ins) (b off n c : Nat) (nn : Int) (BX : List Int) (w : World) (t1 : decide ((500 : Int) < (n : Int)) = false)
    (u1 : decide ((BX.length : Int) ≤ nn) = true) (u2 : decide (nn ≤ (n : Int)) = true) (u3 : decide ((0 : Int) < (n : Int)) = true) (u4 : decide (0 < n) = true) (u5 : (kd x.op != 0) = true) (u6 : IntKind.i64.wrap x.op = x.op) (hK : KTab w)
    (hR : ∀ W, Below w.heap.size w W → Calls Tryd.prog 11 #[.slice (some ⟨b, off, none⟩) n c, .int .i64 0] W (RiTold (x, nn, 0) W))
    (hP : ∀ W, Below w.heap.size w W → ∀ o, SlI W o x.L → Calls Tryd.prog 13 #[.slice none 0 0, .agg #[.int .i64 x.op, .int .i64 x.A, .int .i64 x.B, .int .u64 x.K, o]] W (PutTold BX 0 W))
    (hS : ∀ W, Below w.heap.size w W → ∀ o, SlI W o x.L → Calls Tryd.prog 18 #[.agg #[.int .i64 x.op, .int .i64 x.A, .int .i64 x.B, .int .u64 x.K, o]] W fun e w' => e = .returned (.bool true) ∧ Below W.heap.size W w')
    (hKd : ∀ W, Below w.heap.size w W → Calls Tryd.prog 21 #[.int .i64 x.op] W fun e w' => e = .returned (.int .i64 (kd x.op)) ∧ W = w')
    (hc : ∀ W, Below w.heap.size w W → W.cell? ⟨b, off, none⟩ = some (.int .u8 x.op)) :
    Calls Tryd.prog 5 #[.slice (some ⟨b, off, none⟩) n c] w fun e w' => e = .returned (.bool true) ∧ Below w.heap.size w w' := by
  have HR := Lib.hid hR
  have HP := Lib.hid hP
  have HS := Lib.hid hS
  have HKd := Lib.hid hKd
  have HC := Lib.hid hc
  have U1 := Lib.hid u1
  have U2 := Lib.hid u2
  have U3 := Lib.hid u3
  have U4 := Lib.hid u4
  have U5 := Lib.hid u5
  have U6 := Lib.hid u6
  clear hR hP hS hKd hc u1 u2 u3 u4 u5 u6
  go_enter Tryd.func5, Tryd.ntmps5
  go_wp2_with fail
  refine (awake_any _ hK).mono ?_
  rintro e w1 ⟨rfl, hb1⟩
  have HW := Lib.hid hb1
  clear hb1
  go_wp2_with fail
  refine (HR.out _ HW.out).mono ?_
  rintro e w2 ⟨o, rfl, ho, hb⟩
  obtain ⟨P, cL, rfl⟩ := ho.form
  have HO := Lib.hid (OwnI.slI ho)
  have HW := Lib.hid (HW.out.trans (hb.mono HW.out.size))
  clear hb ho
  obtain ⟨nL, hnL⟩ : ∃ nL, x.L.length = nL := ⟨_, rfl⟩
  rw [hnL] at HO
  rw [hnL]
  clear hnL
  have HT := Lib.hid ((Below.refl w2.heap.size w2).alloc (Nat.le_refl _) (.cells #[.int .i64 x.op, .int .i64 x.A, .int .i64 x.B, .int .u64 x.K, .slice P nL cL] 26))
  have HI := Lib.hid (InAt.at_ w2 w2.heap.size x.op x.A x.B x.K (.slice P nL cL) 26 rfl)
  obtain ⟨_, q1, q2, q3, q4, q5, _, _, _, _, _⟩ := HI.out
  go_wp2_with fail
  have HW := Lib.hid (HW.out.trans (HT.out.mono HW.out.size))
  have HO := Lib.hid (HO.out.keep HT.out)
  refine (HP.out _ HW.out _ HO.out).mono ?_
  rintro e w3 ⟨v3, rfl, hs3, hb⟩
  obtain ⟨AX, cX, rfl, _⟩ := id hs3
  have HW := Lib.hid (HW.out.trans (hb.mono HW.out.size))
  have HI := Lib.hid (HI.out.keep hb)
  have HO := Lib.hid (HO.out.keep hb)
  clear hb hs3 q1 q2 q3 q4 q5
  go_wp2_with fail
  refine Stab.region 78 [.is (.bool true), .is (.bool true), .is (.int .i64 0), .is (.bool true), .is (.bool true), .is (.bool true), .is (.slice AX BX.length cX), .is (.int .i64 (BX.length : Int)), .is (.int .i64 nn), .is (.bool true), .is (.bool true), .is (.bool true), .is (.int .i64 nn), .is (.slice (some ⟨b, off, none⟩) n c), .is (.int .i64 (n : Int)), .is (.bool true), .is (.bool true), .is (.bool true), .is (.agg #[.int .i64 x.op, .int .i64 x.A, .int .i64 x.B, .int .u64 x.K, .slice P nL cL]), .is (.bool true), .is (.bool true), .is (.bool true), .is (.pointer (some ⟨w2.heap.size, 0, none⟩)), .is (.int .i64 x.op), .is (.int .i64 (kd x.op)), .is (.bool true), .is (.bool true), .is (.bool true), .is (.slice (some ⟨b, off, none⟩) n c), .is (.int .i64 (n : Int)), .is (.bool true), .is (.bool true), .is (.bool true), .is (.pointer (some ⟨w2.heap.size, 0, none⟩)), .is (.int .i64 x.op), .is (.slice (some ⟨b, off, none⟩) n c), .is (.pointer (some ⟨b, off, none⟩)), .is (.int .u8 x.op), .is (.int .i64 x.op), .is (.bool true), .is (.bool true), .is (.bool true)] (by kernel_rfl) (by kernel_rfl) rfl rfl ?_ ?_
  · with_reducible refine Stab.steps_cons ?_ ?_ ?_
    · exact Stab.owes_move rfl rfl rfl
    · exact trivial
    with_reducible refine Stab.steps_cons ?_ ?_ ?_
    · exact Stab.owes_move rfl rfl rfl
    · exact trivial
    with_reducible refine Stab.steps_cons ?_ ?_ ?_
    · exact Stab.owes_move rfl rfl rfl
    · exact trivial
    with_reducible refine Stab.steps_cons ?_ ?_ ?_
    · exact Stab.owes_bin rfl rfl rfl (fun W => Stab.run_eqE _ _ 0 0 true rfl W) rfl
    · exact trivial
    with_reducible refine Stab.steps_cons ?_ ?_ ?_
    · exact Stab.owes_pick rfl rfl rfl rfl
    · exact trivial
    with_reducible refine Stab.steps_cons ?_ ?_ ?_
    · exact Stab.owes_move rfl rfl rfl
    · exact trivial
    with_reducible refine Stab.steps_cons ?_ ?_ ?_
    · exact Stab.owes_move rfl rfl rfl
    · exact trivial
    with_reducible refine Stab.steps_cons ?_ ?_ ?_
    · exact Stab.owes_length rfl rfl (fun W => Stab.run_lenB _ _ _ _ W) rfl
    · exact trivial
    with_reducible refine Stab.steps_cons ?_ ?_ ?_
    · exact Stab.owes_move rfl rfl rfl
    · exact trivial
    with_reducible refine Stab.steps_cons ?_ ?_ ?_
    · exact Stab.owes_bin rfl rfl rfl (fun W => Stab.run_leI _ _ _ _ true U1.out W) rfl
    · exact trivial
    with_reducible refine Stab.steps_cons ?_ ?_ ?_
    · exact Stab.owes_pick rfl rfl rfl rfl
    · exact trivial
    with_reducible refine Stab.steps_cons ?_ ?_ ?_
    · exact Stab.owes_move rfl rfl rfl
    · exact trivial
    with_reducible refine Stab.steps_cons ?_ ?_ ?_
    · exact Stab.owes_move rfl rfl rfl
    · exact trivial
    with_reducible refine Stab.steps_cons ?_ ?_ ?_
    · exact Stab.owes_move rfl rfl rfl
    · exact trivial
    with_reducible refine Stab.steps_cons ?_ ?_ ?_
    · exact Stab.owes_length rfl rfl (fun W => Stab.run_lenB _ _ _ _ W) rfl
    · exact trivial
    with_reducible refine Stab.steps_cons ?_ ?_ ?_
    · exact Stab.owes_bin rfl rfl rfl (fun W => Stab.run_leI _ _ _ _ true U2.out W) rfl
    · exact trivial
    with_reducible refine Stab.steps_cons ?_ ?_ ?_
    · exact Stab.owes_pick rfl rfl rfl rfl
    · exact trivial
    with_reducible refine Stab.steps_cons ?_ ?_ ?_
    · exact Stab.owes_move rfl rfl rfl
    · exact trivial
    with_reducible refine Stab.steps_cons ?_ ?_ ?_
    · exact Stab.owes_load rfl (fun v W hb hv => by subst hv; exact (HI.out.keep hb).run) rfl
    · exact trivial
    with_reducible refine Stab.steps_cons ?_ ?_ ?_
    · (refine Stab.owes_call Tryd.func18 (by kernel_rfl) (by kernel_rfl) rfl (fun vs W hb hall => ?_) rfl; obtain ⟨_, _, rfl, rfl, rfl⟩ := hall; refine (HS.out W (HW.out.trans (hb.mono HW.out.size)) _ (HO.out.keep hb)).mono ?_; rintro e w4 ⟨rfl, hb2⟩; exact ⟨_, rfl, hb2, rfl⟩)
    · exact trivial
    with_reducible refine Stab.steps_cons ?_ ?_ ?_
    · exact Stab.owes_pick rfl rfl rfl rfl
    · exact trivial
    with_reducible refine Stab.steps_cons ?_ ?_ ?_
    · exact Stab.owes_move rfl rfl rfl
    · exact trivial
    with_reducible refine Stab.steps_cons ?_ ?_ ?_
    · exact Stab.owes_fieldAt rfl rfl (fun W => Stab.run_field0 _ W) rfl
    · exact trivial
    with_reducible refine Stab.steps_cons ?_ ?_ ?_
    · exact Stab.owes_load rfl (fun v W hb hv => by subst hv; exact Stab.run_cellI _ _ _ W (HI.out.keep hb).c0) rfl
    · exact trivial
    with_reducible refine Stab.steps_cons ?_ ?_ ?_
    · (refine Stab.owes_call Tryd.func21 (by kernel_rfl) (by kernel_rfl) rfl (fun vs W hb hall => ?_) rfl; obtain ⟨_, _, rfl, rfl, rfl⟩ := hall; refine (HKd.out W (HW.out.trans (hb.mono HW.out.size))).mono ?_; rintro e w4 ⟨rfl, rfl⟩; exact ⟨_, rfl, Below.refl _ _, rfl⟩)
    · exact trivial
    with_reducible refine Stab.steps_cons ?_ ?_ ?_
    · exact Stab.owes_bin rfl rfl rfl (fun W => Stab.run_neI _ _ _ _ true U5.out W) rfl
    · exact trivial
    with_reducible refine Stab.steps_cons ?_ ?_ ?_
    · exact Stab.owes_pick rfl rfl rfl rfl
    · exact trivial
    with_reducible refine Stab.steps_cons ?_ ?_ ?_
    · exact Stab.owes_move rfl rfl rfl
    · exact trivial
    with_reducible refine Stab.steps_cons ?_ ?_ ?_
    · exact Stab.owes_move rfl rfl rfl
    · exact trivial
    with_reducible refine Stab.steps_cons ?_ ?_ ?_
    · exact Stab.owes_length rfl rfl (fun W => Stab.run_lenB _ _ _ _ W) rfl
    · exact trivial
    with_reducible refine Stab.steps_cons ?_ ?_ ?_
    · exact Stab.owes_bin rfl rfl rfl (fun W => Stab.run_gtI _ _ _ _ true U3.out W) rfl
    · exact trivial
    with_reducible refine Stab.steps_cons ?_ ?_ ?_
    · exact Stab.owes_pick rfl rfl rfl rfl
    · exact trivial
    with_reducible refine Stab.steps_cons ?_ ?_ ?_
    · exact Stab.owes_move rfl rfl rfl
    · exact trivial
    with_reducible refine Stab.steps_cons ?_ ?_ ?_
    · exact Stab.owes_fieldAt rfl rfl (fun W => Stab.run_field0 _ W) rfl
    · exact trivial
    with_reducible refine Stab.steps_cons ?_ ?_ ?_
    · exact Stab.owes_load rfl (fun v W hb hv => by subst hv; exact Stab.run_cellI _ _ _ W (HI.out.keep hb).c0) rfl
    · exact trivial
    with_reducible refine Stab.steps_cons ?_ ?_ ?_
    · exact Stab.owes_move rfl rfl rfl
    · exact trivial
    with_reducible refine Stab.steps_cons ?_ ?_ ?_
    · exact Stab.owes_indexAt rfl rfl rfl (fun W => Stab.run_at8 _ _ _ _ W U4.out) rfl
    · exact trivial
    with_reducible refine Stab.steps_cons ?_ ?_ ?_
    · exact Stab.owes_load rfl (fun v W hb hv => by subst hv; exact Stab.run_cell8 _ _ _ W (HC.out W (HW.out.trans (hb.mono HW.out.size)))) rfl
    · exact trivial
    with_reducible refine Stab.steps_cons ?_ ?_ ?_
    · exact Stab.owes_convert rfl (fun v W hb hv => by subst hv; exact Stab.run_cvI _ W U6.out) rfl
    · exact trivial
    with_reducible refine Stab.steps_cons ?_ ?_ ?_
    · exact Stab.owes_bin rfl rfl rfl (fun W => Stab.run_eqI _ _ _ _ true (by simp) W) rfl
    · exact trivial
    with_reducible refine Stab.steps_cons ?_ ?_ ?_
    · exact Stab.owes_pick rfl rfl rfl rfl
    · exact trivial
    with_reducible refine Stab.steps_cons ?_ ?_ ?_
    · exact Stab.owes_assign rfl rfl rfl
    · exact trivial
    exact Stab.steps_nil
  · intro W hb _
    simp only [Act.put, List.setIfInBounds_toArray, List.set_cons_succ, List.set_cons_zero]
    have HW := Lib.hid (HW.out.trans (hb.mono HW.out.size))
    go_wp2_with fail
    go_ret
    exact ⟨rfl, HW.out⟩
theorem itold_law (a : Option Addr) (len cap : Nat) (zs : List Int) (w : World) (hK : KTab w) (hr : Leb.Came .u8 w a len cap zs) :
    Calls Tryd.prog 5 #[.slice a len cap] w fun e w' => e = .returned (.bool true) ∧ Below w.heap.size w w' := by
  obtain ⟨p1, p2, p3, _⟩ := came_parts hr
  obtain ⟨s1, b1⟩ := came_sl hr
  by_cases hs : len ≤ 500
  · have t1 : decide ((500 : Int) < (len : Int)) = false := by simp; omega
    revert s1 b1 p1
    generalize zs.take len = l
    intro p1 s1 b1
    have hR : ∀ W, Below w.heap.size w W → Calls Tryd.prog 11 #[.slice a len cap, .int .i64 0] W (RiTold (rdo l 0) W) := fun W hW => pread_any 0 (s1.keep hW) b1 (by omega) (hK.keep hW)
    by_cases hE : (rdo l 0).2.2 = 0
    · obtain ⟨f1, f2, f3, f4, f5, f6, f7⟩ := rdo_told b1 (by omega) hE
      have hq : rdo l 0 = ((rdo l 0).1, (rdo l 0).2.1, 0) := Prod.ext rfl (Prod.ext rfl hE)
      rw [hq] at hR
      generalize (rdo l 0).2.1 = nn at *
      generalize (rdo l 0).1 = x at *
      have h0 : l ≠ [] := fun e => by rw [e] at f4; simp at f4
      obtain ⟨A, c, hv, _, _, h4⟩ := id s1
      obtain ⟨g, off, rfl, hB⟩ := h4 h0
      injection hv with hv1 hv2 hv3
      subst hv1 hv3
      have hc : ∀ W, Below w.heap.size w W → W.cell? ⟨g, off, none⟩ = some (.int .u8 x.op) := fun W hW => by
        have := (hB.keep hW).2.2 0 (by omega)
        rw [← f5] at this
        exact this
      refine itold_ok x g off len cap nn (ib x) w t1 (by simpa using f2) (by rw [← p1]; simpa using f3) (by simp; omega) (by simp; omega) (by simpa using f6) (by have := kd_code f6; exact IntWalk.i64_in _ (by omega)) hK hR ?_ ?_ (fun W hW => kind_any _ W (hK.keep hW)) hc
      · intro W hW o ho
        have := pput_any (Sl.nil W) (by simp) ho f7 (hK.keep hW)
        unfold PutIs at this
        rw [f1] at this
        exact this
      · intro W hW o ho
        have := psane_any ho f7 (hK.keep hW)
        rw [f1] at this
        exact this
    · have hq : rdo l 0 = (⟨0, 0, 0, 0, []⟩, 0, (rdo l 0).2.2) := rdo_none hE
      rw [hq] at hR
      exact itold_no a len cap _ w t1 (by simpa using hE) hK hR
  · exact itold_big a len cap w (by simp; omega) hK
end Go.Proofs.YtmjimijolfjhmaaDoor.Ins
