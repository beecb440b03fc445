/- ModPFun, ModPRun, ModPR. -/
import Derived.Test.YtffegkjlgeblbaaGreatDoorModPCnt
import Derived.Test.YtffegkjlgeblbaaGreatDoorPkModLd
import Derived.Test.YtffegkjlgeblbaaGreatDoorPkModRp
import Derived.StillTailTactics
import Derived.WalkSmall
section
/- All functions' types, and runs of bytes, by the program: walked. -/
namespace Go.Proofs.YtffegkjlgeblbaaGreatDoor.Mdl
open Go.RowKit Ints Typ Ins
set_option maxRecDepth 100000
set_option maxHeartbeats 4000000
set_option linter.unusedVariables false
theorem pfuncs_any {v : Value} {m : ModT} {w : World} (h : ModAt w v m) (hS : ShortM m) :
    Calls Tryz.prog 24 #[v] w fun e w' => (∃ u, e = .returned u ∧ OwnI w' w.heap.size u (funcsM m)) ∧ Below w.heap.size w w' := by
  obtain ⟨_, s2, s3, s4, s5, s6, _, _, _, _⟩ := hS
  obtain ⟨vt, vi, vf, va, vm, vg, vx, ve, vc, vd, rfl, r1, r2, r3, r4, r5, r6, r7, r8, r9, r10, r11⟩ := h
  obtain ⟨At1, ct, rfl⟩ := row_len r1
  obtain ⟨Ai, ci, rfl⟩ := row_len r2
  obtain ⟨Af, cf, rfl, _⟩ := id r3
  obtain ⟨Aa, ca, rfl⟩ := row_len r4
  obtain ⟨Am, cm, rfl⟩ := row_len r5
  obtain ⟨Ag, cg, rfl⟩ := row_len r6
  obtain ⟨Ax, cx, rfl⟩ := row_len r7
  obtain ⟨Ae, ce, rfl⟩ := row_len r9
  obtain ⟨Ac, cc, rfl⟩ := row_len r10
  obtain ⟨Ad, cd, rfl⟩ := row_len r11
  obtain ⟨nt, hnt⟩ : ∃ n, m.types.length = n := ⟨_, rfl⟩
  obtain ⟨ni, hni⟩ : ∃ n, m.imps.length = n := ⟨_, rfl⟩
  obtain ⟨nf, hnf⟩ : ∃ n, m.funcs.length = n := ⟨_, rfl⟩
  obtain ⟨na, hna⟩ : ∃ n, m.tabs.length = n := ⟨_, rfl⟩
  obtain ⟨nm, hnm⟩ : ∃ n, m.mems.length = n := ⟨_, rfl⟩
  obtain ⟨ng, hng⟩ : ∃ n, m.globs.length = n := ⟨_, rfl⟩
  obtain ⟨nx, hnx⟩ : ∃ n, m.exps.length = n := ⟨_, rfl⟩
  obtain ⟨ne, hne⟩ : ∃ n, m.elems.length = n := ⟨_, rfl⟩
  obtain ⟨nc, hnc⟩ : ∃ n, m.codes.length = n := ⟨_, rfl⟩
  obtain ⟨nd, hnd⟩ : ∃ n, m.datas.length = n := ⟨_, rfl⟩
  rw [hnt] at r1  ⊢
  rw [hni] at r2 s2 ⊢
  rw [hnf] at r3 s3 ⊢
  rw [hna] at r4  ⊢
  rw [hnm] at r5  ⊢
  rw [hng] at r6  ⊢
  rw [hnx] at r7  ⊢
  rw [hne] at r9  ⊢
  rw [hnc] at r10  ⊢
  rw [hnd] at r11  ⊢
  obtain ⟨st, hst⟩ : ∃ s, m.start = s := ⟨_, rfl⟩
  rw [hst]
  have HNnt := Lib.hid hnt
  have HNni := Lib.hid hni
  have HRni := Lib.hid r2
  have HBni : Hid (ni ≤ 9223372036854775807) := Lib.hid (by have := r2.form; obtain ⟨A9, c9, e9, l9, m9⟩ := this; injection e9 with _ e1 e2; omega)
  have HNnf := Lib.hid hnf
  have HNna := Lib.hid hna
  have HNnm := Lib.hid hnm
  have HNng := Lib.hid hng
  have HNnx := Lib.hid hnx
  have HNne := Lib.hid hne
  have HNnc := Lib.hid hnc
  have HNnd := Lib.hid hnd
  have HF := Lib.hid r3
  have HW0 := Lib.hid ((Below.refl w.heap.size w).alloc (Nat.le_refl _) (.cells #[.slice At1 nt ct, .slice Ai ni ci, .slice Af nf cf, .slice Aa na ca, .slice Am nm cm, .slice Ag ng cg, .slice Ax nx cx, .int .i64 st, .slice Ae ne ce, .slice Ac nc cc, .slice Ad nd cd] 34))
  clear r1 r2 r3 r4 r5 r6 r7 r8 r9 r10 r11 hnt hni hnf hna hnm hng hnx hne hnc hnd hst
  go_enter Tryz.func24, Tryz.ntmps24
  go_wp2_with fail
  go_loopw [3, 9] (fun u i' wr => ∃ (i : Nat), i' = .int .i64 (i : Int) ∧ i ≤ ni ∧ OwnI wr (w.heap.size + 1) u (impF (m.imps.take i)) ∧ Below (w.heap.size + 1) (w.alloc (.cells #[.slice At1 nt ct, .slice Ai ni ci, .slice Af nf cf, .slice Aa na ca, .slice Am nm cm, .slice Ag ng cg, .slice Ax nx cx, .int .i64 st, .slice Ae ne ce, .slice Ac nc cc, .slice Ad nd cd] 34)) wr) (fun _ i' _ => ni - (intOf i').toNat)
  case atStart => exact ⟨0, by go_num, by omega, ownI_nil _ _, Below.refl _ _⟩
  case round =>
    obtain ⟨i, rfl, hi, hO, hW⟩ := hrel
    have HO := Lib.hid hO
    have HW := Lib.hid hW
    have HWW : Hid (Below w.heap.size w wr) := Lib.hid (HW0.out.trans (hW.mono (by omega)))
    have hh : wr.heap[w.heap.size]? = some (.cells #[.slice At1 nt ct, .slice Ai ni ci, .slice Af nf cf, .slice Aa na ca, .slice Am nm cm, .slice Ag ng cg, .slice Ax nx cx, .int .i64 st, .slice Ae ne ce, .slice Ac nc cc, .slice Ad nd cd] 34 (0, 0)) := by
      rw [hW.block _ (by omega)]
      exact Sec.heap_new w _
    have z1 := (Sec.cells_at hh 1).1
    have z2 := (Sec.cells_at hh 2).1
    have hlen := impF_len (m.imps.take i)
    rw [List.length_take] at hlen
    have HLEN := Lib.hid hlen
    clear hO hW hh hlen
    by_cases hlt : i < ni
    · obtain ⟨p, hp⟩ : ∃ p, m.imps[i]? = some p := ⟨_, List.getElem?_eq_getElem (by rw [HNni.out]; exact hlt)⟩
      obtain ⟨g, off, rfl, hg, hA, _⟩ := (HRni.out.keep HWW.out).at_ hp
      have HT := Lib.hid (impF_take hp)
      have q0 := hA 0 (.string p.md) rfl
      have q1 := hA 1 (.string p.nm) rfl
      have q2 := hA 2 (.int .i64 p.kind) rfl
      have q3 := hA 3 (.int .i64 p.ty) rfl
      have q4 := hA 4 (.int .i64 p.lim.1) rfl
      have q5 := hA 5 (.int .i64 p.lim.2.1) rfl
      have q6 := hA 6 (.bool p.lim.2.2) rfl
      have q7 := hA 7 (.int .u8 p.val) rfl
      have q8 := hA 8 (.bool p.mt) rfl
      rw [show (elI.s) = 9 from rfl] at q0 q1 q2 q3 q4 q5 q6 q7 q8
      rw [Nat.add_zero] at q0
      have i1 : (0 : Int) ≤ (i : Int) := by omega
      have i2 : (i : Int) < (ni : Int) := by omega
      have hw1 : IntKind.i64.wrap ((i : Int) + 1) = (i : Int) + 1 := IntWalk.i64_in _ (by omega)
      obtain ⟨md9, nm9, kk, ty, ⟨l1, l2, l3⟩, vl9, mt⟩ := p
      simp only at q0 q1 q2 q3 q4 q5 q6 q7 q8 HT
      have HSZ : Hid (w.heap.size + 1 ≤ wr.heap.size) := Lib.hid (by have := HW.out.size; rw [Sec.size_new1] at this; exact this)
      clear hA hp
      by_cases hq : kk = 0
      · subst hq
        have HV : Hid (impF (m.imps.take (i + 1)) = impF (m.imps.take i) ++ [ty]) := Lib.hid (by rw [HT.out]; rfl)
        go_wp2_with (at_builtin; refine Sec.stop_ ?_)
        refine Lib.hid ?_
        refine wp_oneI _ rfl (.tmp 16) (.tmp 19) rfl (w.heap.size + 1) _ (impF (m.imps.take i)) ty rfl (HO.out.keep ?_) ?_ ?_ ?_ ?_
        focus (repeat (first | exact Below.refl _ _ | refine Below.setCell ?_ (p := ⟨wr.heap.size, _, none⟩) (Nat.le_refl _) _ | refine Below.alloc ?_ (Nat.le_refl _) _))
        focus (rw [Sec.size_new1]; rfl)
        focus (have := HLEN.out; omega)
        focus (have := HSZ.out; simp; omega)
        intro v3 w3 ho3 hb3
        rw [← HV.out] at ho3
        have HO3 := Lib.hid ho3
        have HW3 := Lib.hid (HW.out.trans (Below.trans (by repeat (first | exact Below.refl _ _ | refine Below.setCell ?_ (p := ⟨wr.heap.size, _, none⟩) HSZ.out _ | refine Below.alloc ?_ HSZ.out _) : Below (w.heap.size + 1) wr _) hb3))
        clear ho3 hb3 z1 z2 q0 q1 q2 q3 q4 q5 q6 q7 q8
        go_wp2_with fail
        go_roundw
        case rel => exact ⟨i + 1, by go_num, hlt, HO3.out, HW3.out⟩
        case measure => simp [intOf]; omega
      · have hq1 : (kk == 0) = false := by simpa using hq
        have HV : Hid (impF (m.imps.take (i + 1)) = impF (m.imps.take i)) := Lib.hid (by rw [HT.out, hq1]; simp)
        go_wp2_with fail
        go_roundw
        case rel => exact ⟨i + 1, by go_num, hlt, by rw [HV.out]; refine HO.out.keep ?_; repeat (first | exact Below.refl _ _ | refine Below.setCell ?_ (p := ⟨wr.heap.size, _, none⟩) (Nat.le_refl _) _ | refine Below.alloc ?_ (Nat.le_refl _) _), by repeat (first | exact HW.out | refine Below.setCell ?_ (p := ⟨wr.heap.size, _, none⟩) HSZ.out _ | refine Below.alloc ?_ HSZ.out _)⟩
        case measure => simp [intOf]; omega
    · have hin : i = ni := by omega
      subst hin
      rw [List.take_of_length_le (by rw [HNni.out]; exact Nat.le_refl _)] at HO HLEN
      go_wp2_with (at_builtin; refine Sec.stop_ ?_)
      refine Lib.hid ?_
      refine Bod.wp_nums wr rfl (.tmp 22) (.tmp 24) rfl (w.heap.size + 1) _ (impF m.imps) m.funcs rfl HO.out Af cf ?_ ?_ ?_ ?_ ?_
      focus (rw [HNnf.out]; rfl)
      focus (rw [HNnf.out]; exact HF.out.keep HWW.out)
      focus (have := HLEN.out; rw [HNnf.out]; omega)
      focus (have := HW.out.size; rw [Sec.size_new1] at this; exact this)
      intro v4 w4 ho4 hb4
      have HO4 := Lib.hid (show OwnI w4 w.heap.size v4 (funcsM m) from Sec.own_low ho4 (by omega))
      have HW4 := Lib.hid (HWW.out.trans (hb4.mono (by omega)))
      clear ho4 hb4 z1 z2
      go_wp2_with fail
      exact bodyPost_ret (v := v4) (by simp [results, Tryz.results24, go_sem]) rfl ⟨⟨_, rfl, HO4.out⟩, HW4.out⟩
end Go.Proofs.YtffegkjlgeblbaaGreatDoor.Mdl
end

section
/- Runs of bytes, by the program: walked. -/
namespace Go.Proofs.YtffegkjlgeblbaaGreatDoor.Mdl
open Go.RowKit Ints Typ Ins
set_option maxRecDepth 100000
set_option maxHeartbeats 4000000
set_option linter.unusedVariables false
/-- The last run is of the last byte. -/
theorem runs_last (l : List Int) (j : Nat) (h : j < l.length) : ∃ q c, runs (l.take (j + 1)) = q ++ [(c, l.getD j 0)] := by
  rw [runs_take h]
  rcases List.eq_nil_or_concat (runs (l.take j)) with e | ⟨q, ⟨c, y⟩, e⟩
  · rw [e, rstep_new]
    exact ⟨[], 1, rfl⟩
  · rw [e, List.concat_eq_append]
    by_cases hy : y = l.getD j 0
    · subst hy
      rw [rstep_more]
      exact ⟨q, c + 1, rfl⟩
    · rw [rstep_other _ _ _ _ hy]
      exact ⟨q ++ [(c, y)], 1, rfl⟩
theorem pruns_any {A : Option Addr} {n c : Nat} {l : List Int} {w : World} (hn : l.length = n) (hs : Utf.Sl w (.slice A n c) l) (hb : ∀ y ∈ l, 0 ≤ y ∧ y < 256) (hl : n ≤ 100000) :
    Calls Tryz.prog 18 #[.slice A n c] w fun e w' => (∃ v, e = .returned v ∧ RowG.Own elP w' w.heap.size v (runs l)) ∧ Below w.heap.size w w' := by
  have HN := Lib.hid hn
  have HS := Lib.hid hs
  have HBB := Lib.hid hb
  clear hn hs hb
  go_enter Tryz.func18, Tryz.ntmps18
  go_wp2_with fail
  go_loopw [3, 8] (fun u i' wr => ∃ (i : Nat), i' = .int .i64 (i : Int) ∧ i ≤ n ∧ RowG.Own elP wr w.heap.size u (runs (l.take i)) ∧ Below w.heap.size w wr) (fun _ i' _ => n - (intOf i').toNat)
  case atStart => exact ⟨0, by go_num, by omega, RowG.own_nil _ _ _, Below.refl _ _⟩
  case round =>
    obtain ⟨i, rfl, hi, hO, hW⟩ := hrel
    have HO := Lib.hid hO
    have HW := Lib.hid hW
    clear hO hW
    by_cases hlt : i < n
    · have HT := Lib.hid (runs_take (l := l) (i := i) (by rw [HN.out]; exact hlt))
      have hsm := runs_small (l.take i)
      rw [List.length_take] at hsm
      obtain ⟨x, hx⟩ : ∃ x, l.getD i 0 = x := ⟨_, rfl⟩
      have hx2 : 0 ≤ x ∧ x < 256 := by
        rw [← hx, List.getD_eq_getElem?_getD, List.getElem?_eq_getElem (by rw [HN.out]; exact hlt)]
        exact HBB.out _ (List.getElem_mem _)
      obtain ⟨g, off, rfl, _⟩ : ∃ g off, A = some ⟨g, off, none⟩ ∧ True := by
        obtain ⟨A', c', e, _, _, h4⟩ := HS.out
        obtain ⟨g, off, e', _⟩ := h4 (fun e => by have := HN.out; rw [e] at this; simp at this; omega)
        injection e with e1 _ _
        exact ⟨g, off, e1.trans e', trivial⟩
      have HCL : Hid (∀ k, k < n → wr.cell? ⟨g, off + k, none⟩ = some (.int .u8 (l.getD k 0))) := Lib.hid fun k hk => Sec.sl_cell (HS.out.keep HW.out) (by rw [HN.out]; exact hk)
      have c1 := HCL.out i hlt
      rw [hx] at HT c1
      clear hx
      have i1 : (0 : Int) ≤ (i : Int) := by omega
      have i2 : (i : Int) < (n : Int) := by omega
      have hw1 : IntKind.i64.wrap ((i : Int) + 1) = (i : Int) + 1 := IntWalk.i64_in _ (by omega)
      have hw0 : IntKind.i64.wrap x = x := IntWalk.i64_in _ (by omega)
      have HSM := Lib.hid hsm
      by_cases hi0 : i = 0
      · have HV : Hid (runs (l.take (i + 1)) = [] ++ [(1, x)]) := Lib.hid (by rw [HT.out, hi0]; rfl)
        have HO2 : Hid (RowG.Own elP wr w.heap.size u3 []) := by have := HO.out; rw [hi0] at this; exact Lib.hid this
        have t3 : decide ((0 : Int) < (i : Int)) = false := decide_eq_false (by omega)
        have t4 : decide (0 < i) = false := decide_eq_false (by omega)
        clear hi0
        have hv : ∃ P cv, u3 = .slice P 0 cv := by
          obtain ⟨P, cv, e⟩ := HO2.out.form
          exact ⟨P, cv, e⟩
        obtain ⟨P, cv, rfl⟩ := hv
        clear hsm
        go_wp2_with (at_builtin; refine Sec.stop_ ?_)
        refine Lib.hid ?_
        refine RowG.wp_oneG elP 43 Tryz.underlying43 _ rfl (.tmp 34) (.tmp 38) rfl w.heap.size _ [] (1, x) trivial rfl ?_ wr.heap.size ?_ (new_pair _ 1 x) ?_ (by decide) ?_ ?_
        focus (exact RowG.own_keep HO2.out ((Below.refl _ _).alloc (Nat.le_refl _) _))
        focus rfl
        focus (exact Nat.zero_le _)
        focus (exact (HW.out.alloc HW.out.size _).size)
        intro v3 w3 ho3 hb3 hk3
        rw [← HV.out] at ho3
        have HO3 := Lib.hid ho3
        have HW3 := Lib.hid ((HW.out.alloc HW.out.size _).trans hb3)
        clear ho3 hb3 hk3
        go_wp2_with fail
        go_roundw
        case rel => exact ⟨i + 1, by go_num, hlt, HO3.out, HW3.out⟩
        case measure => simp [intOf]; omega
      · obtain ⟨j, hj⟩ : ∃ j, i = j + 1 := ⟨i - 1, by omega⟩
        obtain ⟨q, cc, hq⟩ := runs_last l j (by rw [HN.out]; omega)
        rw [← hj] at hq
        have c2 := HCL.out j (by omega)
        obtain ⟨y, hy0⟩ : ∃ y, l.getD j 0 = y := ⟨_, rfl⟩
        rw [hy0] at hq c2
        rw [hq] at HO HT HSM hsm
        clear hy0 hq
        have hv : ∃ g2 cv, u3 = .slice (some ⟨g2, 0, none⟩) (q.length + 1) cv := by
          obtain ⟨_, ⟨_, e⟩ | ⟨g2, cv, cur, e, _⟩⟩ := id HO.out
          · simp at e
          · exact ⟨g2, cv, by rw [e, List.length_append]; rfl⟩
        obtain ⟨g2, cv, rfl⟩ := hv
        have hp := own_pair HO.out
        obtain ⟨k, hk⟩ : ∃ k, q.length = k := ⟨_, rfl⟩
        have HKQ := Lib.hid hk
        have hcc := hsm.2 (cc, y) (by simp)
        simp only at hcc
        have hk30 : k + 1 ≤ i := by have := hsm.1; rw [List.length_append, List.length_singleton, hk] at this; omega
        rw [hk] at hp HO ⊢
        clear hsm hk
        obtain ⟨d0, _, d2, hB2⟩ := hp
        have HB2 := Lib.hid hB2
        clear hB2
        have hwj : IntKind.i64.wrap ((i : Int) - 1) = (j : Int) := by rw [show (i : Int) - 1 = (j : Int) from by omega]; exact IntWalk.i64_in _ (by omega)
        have hwj2 : IntKind.i64.wrap (j : Int) = (j : Int) := IntWalk.i64_in _ (by omega)
        have j1 : (0 : Int) ≤ (j : Int) := by omega
        have j2 : (j : Int) < (n : Int) := by omega
        have j3 : decide ((0 : Int) < (i : Int)) = true := decide_eq_true (by omega)
        have j4 : decide (0 < i) = true := decide_eq_true (by omega)
        have hwk : IntKind.i64.wrap ((k : Int) + 1 - 1) = (k : Int) := by rw [Int.add_sub_cancel]; exact IntWalk.i64_in _ (by omega)
        have hwk2 : IntKind.i64.wrap (k : Int) = (k : Int) := IntWalk.i64_in _ (by omega)
        have k1 : (0 : Int) ≤ (k : Int) := by omega
        have k2 : (k : Int) < (k : Int) + 1 := by omega
        have hwc : IntKind.i64.wrap (cc + 1) = cc + 1 := IntWalk.i64_in _ (by omega)
        clear hj hi0
        by_cases hy : x = y
        · have t1 : (x == y) = true := by simpa using hy
          have HV : Hid (runs (l.take (i + 1)) = q ++ [(cc + 1, y)]) := Lib.hid (by rw [HT.out, hy, rstep_more])
          go_wp2_with fail
          go_region
          all_goals (
            go_wp2_with fail
            go_roundw
            case rel => exact ⟨i + 1, by go_num, hlt, by rw [HV.out]; exact RowG.own_keep (own_setP HO.out HKQ.out (flat_set q cc y (cc + 1))) (Sec.drewB _), (HW.out.setCell (p := ⟨g2, k * 2, none⟩) HB2.out (.int .i64 (cc + 1))).trans ⟨rfl, rfl, rfl, Nat.le_refl _, fun _ _ => rfl⟩⟩
            case measure => simp [intOf]; omega)
        · have t1 : (x == y) = false := by simpa using hy
          have HV : Hid (runs (l.take (i + 1)) = q ++ [(cc, y)] ++ [(1, x)]) := Lib.hid (by rw [HT.out, rstep_other _ _ _ _ (fun e => hy e.symm)])
          go_wp2_with (at_builtin; refine Sec.stop_ ?_)
          refine Lib.hid ?_
          refine RowG.wp_oneG elP 43 Tryz.underlying43 _ rfl (.tmp 34) (.tmp 38) rfl w.heap.size _ (q ++ [(cc, y)]) (1, x) trivial rfl ?_ wr.heap.size ?_ (new_pair _ 1 x) ?_ (by decide) ?_ ?_
          focus (exact RowG.own_keep HO.out ((Below.refl _ _).alloc (Nat.le_refl _) _))
          focus rfl
          focus (have := HSM.out.1; rw [List.length_append, List.length_singleton] at this ⊢; omega)
          focus (exact (HW.out.alloc HW.out.size _).size)
          intro v3 w3 ho3 hb3 hk3
          rw [← HV.out] at ho3
          have HO3 := Lib.hid ho3
          have HW3 := Lib.hid ((HW.out.alloc HW.out.size _).trans hb3)
          clear ho3 hb3 hk3
          go_wp2_with fail
          go_roundw
          case rel => exact ⟨i + 1, by go_num, hlt, HO3.out, HW3.out⟩
          case measure => simp [intOf]; omega
    · have hin : i = n := by omega
      subst hin
      rw [List.take_of_length_le (by rw [HN.out]; exact Nat.le_refl _)] at HO
      go_wp2_with fail
      exact bodyPost_ret (v := u3) (by simp [results, Tryz.results18, go_sem]) rfl ⟨⟨_, rfl, HO.out⟩, HW.out⟩
end Go.Proofs.YtffegkjlgeblbaaGreatDoor.Mdl
end

section
/- The program's reader of modules: how it ends all, and its small parts. -/
namespace Go.Proofs.YtffegkjlgeblbaaGreatDoor.Mdl
open Go.RowKit Ints Typ Ins
set_option maxRecDepth 100000
set_option maxHeartbeats 4000000
set_option linter.unusedVariables false
/-- What a fault's panic bears. -/
def flt (e : Int) : List PanicEntry := [{ v := .iface 125 (.agg #[.int .i64 e]), recovered := false }]
theorem bodyPost_pan {P : Program} {fn : Func} {R : Ending → World → Prop} {a : Act} {w : World} {ch : List PanicEntry} (hd : a.defers = []) (hR : R (.panicked ch) w) : bodyPost P fn R (.panic ch) a w := ⟨hd, hR⟩
theorem need_ok (e : Int) (w : World) : Calls Tryz.prog 73 #[.bool true, .int .i64 e] w fun en w' => en = .returned (.tuple #[]) ∧ w' = w := by
  go_enter Tryz.func73, Tryz.ntmps73
  go_wp2_with fail
  refine bodyPost_end (v := .tuple #[]) (by simp [results, Tryz.results73, go_sem]) rfl ?_
  exact ⟨rfl, rfl⟩
theorem need_no (e : Int) (w : World) : Calls Tryz.prog 73 #[.bool false, .int .i64 e] w fun en w' => en = .panicked (flt e) ∧ w' = w := by
  unfold flt
  go_enter Tryz.func73, Tryz.ntmps73
  go_wp2_with fail
  exact bodyPost_pan rfl ⟨rfl, rfl⟩
theorem must_ok (w : World) : Calls Tryz.prog 70 #[.int .i64 0] w fun en w' => en = .returned (.tuple #[]) ∧ w' = w := by
  go_enter Tryz.func70, Tryz.ntmps70
  go_wp2_with fail
  refine (need_ok 0 w).mono ?_
  rintro en w1 ⟨rfl, rfl⟩
  go_wp2_with fail
  refine bodyPost_end (v := .tuple #[]) (by simp [results, Tryz.results70, go_sem]) rfl ?_
  exact ⟨rfl, rfl⟩
theorem must_no (e : Int) (he : e ≠ 0) (w : World) : Calls Tryz.prog 70 #[.int .i64 e] w fun en w' => en = .panicked (flt e) ∧ w' = w := by
  have t1 : (e == 0) = false := by simpa using he
  clear he
  go_enter Tryz.func70, Tryz.ntmps70
  go_wp2_with fail
  refine (need_no e w).mono ?_
  rintro en w1 ⟨rfl, rfl⟩
  exact bodyPost_pan rfl ⟨rfl, rfl⟩
/-- The program's reader in memory: bytes, a place. -/
structure PAt (w : World) (g : Nat) (v : Value) (at_ : Int) : Prop where
  lt : g < w.heap.size
  c0 : w.cell? ⟨g, 0, none⟩ = some v
  c1 : w.cell? ⟨g, 1, none⟩ = some (.int .i64 at_)
  f0 : w.frozen? ⟨g, 0, none⟩ = false
  f1 : w.frozen? ⟨g, 1, none⟩ = false
theorem PAt.keep {w w' : World} {g : Nat} {v : Value} {a : Int} (h : PAt w g v a) (hb : Below w.heap.size w w') : PAt w' g v a :=
  ⟨Nat.lt_of_lt_of_le h.lt hb.size, by rw [hb.cell (p := ⟨g, 0, none⟩) h.lt]; exact h.c0, by rw [hb.cell (p := ⟨g, 1, none⟩) h.lt]; exact h.c1,
    by rw [hb.frozen (p := ⟨g, 0, none⟩) h.lt]; exact h.f0, by rw [hb.frozen (p := ⟨g, 1, none⟩) h.lt]; exact h.f1⟩
theorem PAt.set1 {w : World} {g : Nat} {v : Value} {a : Int} (h : PAt w g v a) (x : Int) : PAt (w.setCell ⟨g, 1, none⟩ (.int .i64 x)) g v x := by
  obtain ⟨h0, c0, c1, f0, f1⟩ := h
  exact ⟨by simp [World.setCell]; exact h0, by rw [World.cell?_setCell_other (h := by simp)]; exact c0, by apply World.cell?_setCell_same; exact c1, by rw [World.frozen?_setCell]; exact f0, by rw [World.frozen?_setCell]; exact f1⟩
theorem below_drewN (w : World) (n : Nat) : Below w.heap.size w (w.drewN n) := ⟨rfl, rfl, rfl, Nat.le_refl _, fun _ _ => rfl⟩
theorem below_drew1 (w : World) : Below w.heap.size w w.drew := ⟨rfl, rfl, rfl, Nat.le_refl _, fun _ _ => rfl⟩
theorem PAt.drewN {w : World} {g : Nat} {v : Value} {a : Int} (h : PAt w g v a) (n : Nat) : PAt (w.drewN n) g v a := h.keep (below_drewN w n)
/-- A reader of bytes that were there ahead of it. -/
structure PRd (w0 : World) (v : Value) (l : List Int) (g : Nat) (w : World) (at_ : Nat) : Prop where
  sl : Sl w0 v l
  by_ : ∀ x ∈ l, 0 ≤ x ∧ x < 256
  len : l.length ≤ 1000000
  at_le : at_ ≤ l.length
  base : w0.heap.size ≤ g
  below : Below w0.heap.size w0 w
  rd : PAt w g v (at_ : Int)
theorem PRd.turn {w0 w w' : World} {v : Value} {l : List Int} {g a a' : Nat} (h : PRd w0 v l g w a) (hr : PAt w' g v (a' : Int)) (hb : But g w w') (ha : a' ≤ l.length) : PRd w0 v l g w' a' :=
  ⟨h.sl, h.by_, h.len, ha, h.base, h.below.trans (hb.below h.base h.rd.lt), hr⟩
theorem PRd.keep {w0 w w' : World} {v : Value} {l : List Int} {g a : Nat} (h : PRd w0 v l g w a) (hb : Below w.heap.size w w') : PRd w0 v l g w' a :=
  ⟨h.sl, h.by_, h.len, h.at_le, h.base, h.below.trans (hb.mono h.below.size), h.rd.keep hb⟩
theorem PRd.bytes {w0 w : World} {v : Value} {l : List Int} {g a : Nat} (h : PRd w0 v l g w a) : Sl w v l := h.sl.keep h.below
/-- How a reader's call ends: what it tells, and the place; or all ends with an error. -/
def PTurn (v : Value) (g : Nat) (x : Value) (a : Nat) (e : Int) (w : World) (en : Ending) (w' : World) : Prop :=
  (e = 0 ∧ en = .returned x ∧ PAt w' g v (a : Int) ∨ e ≠ 0 ∧ en = .panicked (flt e)) ∧ But g w w'
/-- The same, of what is told a predicate alone. -/
def PTold (v : Value) (g : Nat) (P : Value → World → Prop) (a : Nat) (e : Int) (w : World) (en : Ending) (w' : World) : Prop :=
  (e = 0 ∧ (∃ x, en = .returned x ∧ P x w') ∧ PAt w' g v (a : Int) ∨ e ≠ 0 ∧ en = .panicked (flt e)) ∧ But g w w'
theorem PTurn.yes {v x : Value} {g a : Nat} {w w' : World} (h : PAt w' g v (a : Int)) (hb : But g w w') : PTurn v g x a 0 w (.returned x) w' := ⟨.inl ⟨rfl, rfl, h⟩, hb⟩
theorem PTurn.no {v x : Value} {g a : Nat} {e : Int} {w w' : World} (he : e ≠ 0) (hb : But g w w') : PTurn v g x a e w (.panicked (flt e)) w' := ⟨.inr ⟨he, rfl⟩, hb⟩
theorem PTold.yes {v x : Value} {g a : Nat} {P : Value → World → Prop} {w w' : World} (hp : P x w') (h : PAt w' g v (a : Int)) (hb : But g w w') : PTold v g P a 0 w (.returned x) w' := ⟨.inl ⟨rfl, ⟨x, rfl, hp⟩, h⟩, hb⟩
theorem PTold.no {v : Value} {g a : Nat} {P : Value → World → Prop} {e : Int} {w w' : World} (he : e ≠ 0) (hb : But g w w') : PTold v g P a e w (.panicked (flt e)) w' := ⟨.inr ⟨he, rfl⟩, hb⟩
theorem pnext_end (g : Nat) (A : Option Addr) (n c at_ : Nat) (w : World) (hR : PAt w g (.slice A n c) (at_ : Int)) (h : n ≤ at_) : Calls Tryz.prog 179 #[.pointer (some ⟨g, 0, none⟩)] w fun en w' => en = .panicked (flt 2) ∧ But g w w' := by
  have t1 : decide ((at_ : Int) < (n : Int)) = false := by simp; omega
  have t0 : decide (at_ < n) = false := by simp; omega
  have HR := Lib.hid hR
  obtain ⟨h0, c0, c1, f0, f1⟩ := hR
  clear h
  go_enter Tryz.func179, Tryz.ntmps179
  go_wp2_with fail
  go_still_tail 10, (by kernel_rfl)
  change wpList _ _ _ _ _ w.drew
  have HB := Lib.hid (below_drew1 w)
  obtain ⟨w2, hw2⟩ : ∃ x, w.drew = x := ⟨_, rfl⟩
  rw [hw2] at HB ⊢
  clear hw2 c0 c1 f0 f1
  go_wp2_with fail
  refine (need_no 2 w2).mono ?_
  rintro en w1 ⟨rfl, rfl⟩
  exact bodyPost_pan rfl ⟨rfl, But.of_below HB.out⟩
theorem pnext_in (g b off n c at_ : Nat) (x : Int) (w : World) (hR : PAt w g (.slice (some ⟨b, off, none⟩) n c) (at_ : Int)) (h : at_ < n) (hn : n ≤ 1000000) (x0 : 0 ≤ x) (x1 : x < 256) (hx : w.cell? ⟨b, off + at_, none⟩ = some (.int .u8 x)) :
    Calls Tryz.prog 179 #[.pointer (some ⟨g, 0, none⟩)] w fun en w' => en = .returned (.int .u8 x) ∧ PAt w' g (.slice (some ⟨b, off, none⟩) n c) ((at_ + 1 : Nat) : Int) ∧ But g w w' := by
  have t1 : decide ((at_ : Int) < (n : Int)) = true := by simp; omega
  have t0 : decide (at_ < n) = true := by simp; omega
  have t2 : IntKind.i64.wrap ((at_ : Int) + 1) = (at_ : Int) + 1 := IntWalk.i64_in _ (by omega)
  have HR := Lib.hid hR
  have hxl : b < w.heap.size := World.block_lt_of_cell? w ⟨b, off + at_, none⟩ hx
  have HX := Lib.hid hx
  obtain ⟨h0, c0, c1, f0, f1⟩ := hR
  go_enter Tryz.func179, Tryz.ntmps179
  go_wp2_with fail
  go_still_tail 10, (by kernel_rfl)
  change wpList _ _ _ _ _ w.drew
  have HB := Lib.hid (below_drew1 w)
  have hx2 : w.drew.cell? ⟨b, off + at_, none⟩ = some (.int .u8 x) := HX.out
  have HR2 := Lib.hid (HR.out.keep HB.out)
  obtain ⟨w2, hw2⟩ : ∃ x, w.drew = x := ⟨_, rfl⟩
  rw [hw2] at HB HR2 hx2 ⊢
  clear hw2 c0 c1 f0 f1 hx h0 hxl
  obtain ⟨h0, c0, c1, f0, f1⟩ := HR2.out
  go_wp2_with fail
  refine (need_ok 2 w2).mono ?_
  rintro en w1 ⟨rfl, rfl⟩
  go_wp2_with fail
  go_quiet (fail)
  go_wp2_with fail
  go_ret
  refine ⟨rfl, ?_, ?_⟩
  · rw [show ((at_ + 1 : Nat) : Int) = (at_ : Int) + 1 from by simp]
    exact (HR2.out.drewN _).set1 _
  · exact ((But.of_below HB.out).trans ((But.refl _ _).drewN _)).setCell (p := ⟨g, 1, none⟩) rfl _
/-- Behind a call of the reader's. -/
theorem PTurn.ways {v x : Value} {g a : Nat} {e : Int} {w w' : World} {en : Ending} (h : PTurn v g x a e w en w') : (e = 0 ∧ en = .returned x ∧ PAt w' g v (a : Int) ∧ But g w w') ∨ (e ≠ 0 ∧ en = .panicked (flt e) ∧ But g w w') := by
  obtain ⟨⟨h1, h2, h3⟩ | ⟨h1, h2⟩, hb⟩ := h
  · exact .inl ⟨h1, h2, h3, hb⟩
  · exact .inr ⟨h1, h2, hb⟩
end Go.Proofs.YtffegkjlgeblbaaGreatDoor.Mdl
end
