/- ModPCnt. -/
import Derived.Test.YtffegkjlgeblbaaGreatDoorPkModLd
/- How many of a kind, by the program: walked. -/
namespace Go.Proofs.YtffegkjlgeblbaaGreatDoor.Mdl
open Go.RowKit Ints Typ Ins
set_option maxRecDepth 100000
set_option maxHeartbeats 4000000
set_option linter.unusedVariables false
theorem pimp_any {v : Value} {m : ModT} {w : World} (d : Int) (h : ModAt w v m) :
    Calls Tryz.prog 62 #[v, .int .i64 d] w fun e w' => e = .returned (.int .i64 ((impN m.imps d : Nat) : Int)) ∧ Below w.heap.size w w' := by
  obtain ⟨vt, vi, vf, va, vm, vg, vx, ve, vc, vd, rfl, r1, r2, r3, r4, r5, r6, r7, r8, r9, r10, r11⟩ := h
  obtain ⟨At1, ct, rfl⟩ := row_len r1
  obtain ⟨Ai, ci, rfl⟩ := row_len r2
  obtain ⟨Af, cf, rfl, _⟩ := id r3
  obtain ⟨Aa, ca, rfl⟩ := row_len r4
  obtain ⟨Am, cm, rfl⟩ := row_len r5
  obtain ⟨Ag, cg, rfl⟩ := row_len r6
  obtain ⟨Ax, cx, rfl⟩ := row_len r7
  obtain ⟨Ae, ce, rfl⟩ := row_len r9
  obtain ⟨Ac, cc, rfl⟩ := row_len r10
  obtain ⟨Ad, cd, rfl⟩ := row_len r11
  obtain ⟨nt, hnt⟩ : ∃ n, m.types.length = n := ⟨_, rfl⟩
  obtain ⟨ni, hni⟩ : ∃ n, m.imps.length = n := ⟨_, rfl⟩
  obtain ⟨nf, hnf⟩ : ∃ n, m.funcs.length = n := ⟨_, rfl⟩
  obtain ⟨na, hna⟩ : ∃ n, m.tabs.length = n := ⟨_, rfl⟩
  obtain ⟨nm, hnm⟩ : ∃ n, m.mems.length = n := ⟨_, rfl⟩
  obtain ⟨ng, hng⟩ : ∃ n, m.globs.length = n := ⟨_, rfl⟩
  obtain ⟨nx, hnx⟩ : ∃ n, m.exps.length = n := ⟨_, rfl⟩
  obtain ⟨ne, hne⟩ : ∃ n, m.elems.length = n := ⟨_, rfl⟩
  obtain ⟨nc, hnc⟩ : ∃ n, m.codes.length = n := ⟨_, rfl⟩
  obtain ⟨nd, hnd⟩ : ∃ n, m.datas.length = n := ⟨_, rfl⟩
  rw [hnt] at r1  ⊢
  rw [hni] at r2  ⊢
  rw [hnf] at r3  ⊢
  rw [hna] at r4  ⊢
  rw [hnm] at r5  ⊢
  rw [hng] at r6  ⊢
  rw [hnx] at r7  ⊢
  rw [hne] at r9  ⊢
  rw [hnc] at r10  ⊢
  rw [hnd] at r11  ⊢
  obtain ⟨st, hst⟩ : ∃ s, m.start = s := ⟨_, rfl⟩
  rw [hst]
  have HNnt := Lib.hid hnt
  have HNni := Lib.hid hni
  have HRni := Lib.hid r2
  have HBni : Hid (ni ≤ 9223372036854775807) := Lib.hid (by have := r2.form; obtain ⟨A9, c9, e9, l9, m9⟩ := this; injection e9 with _ e1 e2; omega)
  have HNnf := Lib.hid hnf
  have HNna := Lib.hid hna
  have HNnm := Lib.hid hnm
  have HNng := Lib.hid hng
  have HNnx := Lib.hid hnx
  have HNne := Lib.hid hne
  have HNnc := Lib.hid hnc
  have HNnd := Lib.hid hnd
  have HW0 := Lib.hid ((Below.refl w.heap.size w).alloc (Nat.le_refl _) (.cells #[.slice At1 nt ct, .slice Ai ni ci, .slice Af nf cf, .slice Aa na ca, .slice Am nm cm, .slice Ag ng cg, .slice Ax nx cx, .int .i64 st, .slice Ae ne ce, .slice Ac nc cc, .slice Ad nd cd] 34))
  clear r1 r2 r3 r4 r5 r6 r7 r8 r9 r10 r11 hnt hni hnf hna hnm hng hnx hne hnc hnd hst
  go_enter Tryz.func62, Tryz.ntmps62
  go_wp2_with fail
  go_loopw [5, 11] (fun s i' wr => ∃ (i : Nat), s = .int .i64 ((impN (m.imps.take i) d : Nat) : Int) ∧ i' = .int .i64 (i : Int) ∧ i ≤ ni ∧ Below w.heap.size w wr) (fun _ i' _ => ni - (intOf i').toNat)
  case atStart => exact ⟨0, by simp [impN], by go_num, by omega, HW0.out⟩
  case round =>
    obtain ⟨i, rfl, rfl, hi, hW⟩ := hrel
    have HW := Lib.hid hW
    clear hW
    have hN := impN_le (m.imps.take i) d
    rw [List.length_take] at hN
    have hHB := HBni.out
    by_cases hlt : i < ni
    · obtain ⟨p, hp⟩ : ∃ p, m.imps[i]? = some p := ⟨_, List.getElem?_eq_getElem (by rw [HNni.out]; exact hlt)⟩
      obtain ⟨g, off, rfl, hg, hA, _⟩ := (HRni.out.keep HW.out).at_ hp
      have HT := Lib.hid (impN_take d hp)
      have q0 := hA 0 (.string p.md) rfl
      have q1 := hA 1 (.string p.nm) rfl
      have q2 := hA 2 (.int .i64 p.kind) rfl
      have q3 := hA 3 (.int .i64 p.ty) rfl
      have q4 := hA 4 (.int .i64 p.lim.1) rfl
      have q5 := hA 5 (.int .i64 p.lim.2.1) rfl
      have q6 := hA 6 (.bool p.lim.2.2) rfl
      have q7 := hA 7 (.int .u8 p.val) rfl
      have q8 := hA 8 (.bool p.mt) rfl
      rw [show (elI.s) = 9 from rfl] at q0 q1 q2 q3 q4 q5 q6 q7 q8
      rw [Nat.add_zero] at q0
      obtain ⟨N, hNN⟩ : ∃ N, impN (m.imps.take i) d = N := ⟨_, rfl⟩
      rw [hNN] at hN HT ⊢
      have i1 : (0 : Int) ≤ (i : Int) := by omega
      have i2 : (i : Int) < (ni : Int) := by omega
      have hw1 : IntKind.i64.wrap ((i : Int) + 1) = (i : Int) + 1 := IntWalk.i64_in _ (by omega)
      have hw2 : IntKind.i64.wrap ((N : Int) + 1) = (N : Int) + 1 := IntWalk.i64_in _ (by omega)
      obtain ⟨md, nm, kk, ty, ⟨l1, l2, l3⟩, vl9, mt⟩ := p
      simp only at q0 q1 q2 q3 q4 q5 q6 q7 q8 HT
      have HW1 := Lib.hid ((HW.out.alloc HW.out.size (.cells #[.string ByteArray.empty, .string ByteArray.empty, .int .i64 0, .int .i64 0, .int .i64 0, .int .i64 0, .bool false, .int .u8 0, .bool false] 63)))
      clear hA hp hNN hHB
      cases hq : (kk == d) with
      | true =>
        have HV : Hid (impN (m.imps.take (i + 1)) d = N + 1) := Lib.hid (by rw [HT.out, hq]; rfl)
        go_wp2_with fail
        go_roundw
        case rel => exact ⟨i + 1, by rw [HV.out]; go_num, by go_num, hlt, by repeat (first | exact HW.out | refine Below.setCell ?_ (p := ⟨wr.heap.size, _, none⟩) HW.out.size _ | refine Below.alloc ?_ HW.out.size _)⟩
        case measure => simp [intOf]; omega
      | false =>
        have HV : Hid (impN (m.imps.take (i + 1)) d = N) := Lib.hid (by rw [HT.out, hq]; rfl)
        go_wp2_with fail
        go_roundw
        case rel => exact ⟨i + 1, by rw [HV.out], by go_num, hlt, by repeat (first | exact HW.out | refine Below.setCell ?_ (p := ⟨wr.heap.size, _, none⟩) HW.out.size _ | refine Below.alloc ?_ HW.out.size _)⟩
        case measure => simp [intOf]; omega
    · have hin : i = ni := by omega
      subst hin
      rw [List.take_of_length_le (by rw [HNni.out]; exact Nat.le_refl _)] at hN ⊢
      obtain ⟨N, hNN⟩ : ∃ N, impN m.imps d = N := ⟨_, rfl⟩
      rw [hNN] at hN ⊢
      have HNN := Lib.hid hNN
      clear hNN hHB
      go_wp2_with fail
      exact bodyPost_ret (v := .int .i64 (N : Int)) (by simp [results, Tryz.results62, go_sem]) rfl ⟨by rw [HNN.out], HW.out⟩
theorem pcount_0 {v : Value} {m : ModT} {w : World} (h : ModAt w v m) (hS : ShortM m) : Calls Tryz.prog 26 #[v, .int .i64 0] w fun e w' => e = .returned (.int .i64 ((cntM m 0 : Nat) : Int)) ∧ Below w.heap.size w w' := by
  have HV0 : Hid (cntM m 0 = impN m.imps 0 + m.funcs.length) := Lib.hid (by unfold cntM ownN; simp)
  have HC := Lib.hid fun W (hb : Below w.heap.size w W) => pimp_any 0 (h.keep hb)
  have hN := impN_le m.imps 0
  obtain ⟨_, s2, s3, s4, s5, s6, _, _, _, _⟩ := hS
  obtain ⟨N, hNN⟩ : ∃ N, impN m.imps 0 = N := ⟨_, rfl⟩
  rw [hNN] at HV0 HC hN
  have hN2 : N ≤ 30000 := by omega
  have hO2 : m.funcs.length ≤ 30000 := by omega
  clear hNN s2 s3 s4 s5 s6 hN
  obtain ⟨vt, vi, vf, va, vm, vg, vx, ve, vc, vd, rfl, r1, r2, r3, r4, r5, r6, r7, r8, r9, r10, r11⟩ := h
  obtain ⟨At1, ct, rfl⟩ := row_len r1
  obtain ⟨Ai, ci, rfl⟩ := row_len r2
  obtain ⟨Af, cf, rfl, _⟩ := id r3
  obtain ⟨Aa, ca, rfl⟩ := row_len r4
  obtain ⟨Am, cm, rfl⟩ := row_len r5
  obtain ⟨Ag, cg, rfl⟩ := row_len r6
  obtain ⟨Ax, cx, rfl⟩ := row_len r7
  obtain ⟨Ae, ce, rfl⟩ := row_len r9
  obtain ⟨Ac, cc, rfl⟩ := row_len r10
  obtain ⟨Ad, cd, rfl⟩ := row_len r11
  obtain ⟨nt, hnt⟩ : ∃ n, m.types.length = n := ⟨_, rfl⟩
  obtain ⟨ni, hni⟩ : ∃ n, m.imps.length = n := ⟨_, rfl⟩
  obtain ⟨nf, hnf⟩ : ∃ n, m.funcs.length = n := ⟨_, rfl⟩
  obtain ⟨na, hna⟩ : ∃ n, m.tabs.length = n := ⟨_, rfl⟩
  obtain ⟨nm, hnm⟩ : ∃ n, m.mems.length = n := ⟨_, rfl⟩
  obtain ⟨ng, hng⟩ : ∃ n, m.globs.length = n := ⟨_, rfl⟩
  obtain ⟨nx, hnx⟩ : ∃ n, m.exps.length = n := ⟨_, rfl⟩
  obtain ⟨ne, hne⟩ : ∃ n, m.elems.length = n := ⟨_, rfl⟩
  obtain ⟨nc, hnc⟩ : ∃ n, m.codes.length = n := ⟨_, rfl⟩
  obtain ⟨nd, hnd⟩ : ∃ n, m.datas.length = n := ⟨_, rfl⟩
  rw [hnt] at r1 HC ⊢
  rw [hni] at r2 HC ⊢
  rw [hnf] at r3 HC ⊢
  rw [hna] at r4 HC ⊢
  rw [hnm] at r5 HC ⊢
  rw [hng] at r6 HC ⊢
  rw [hnx] at r7 HC ⊢
  rw [hne] at r9 HC ⊢
  rw [hnc] at r10 HC ⊢
  rw [hnd] at r11 HC ⊢
  obtain ⟨st, hst⟩ : ∃ s, m.start = s := ⟨_, rfl⟩
  rw [hst] at HC ⊢
  have HNnt := Lib.hid hnt
  have HNni := Lib.hid hni
  have HNnf := Lib.hid hnf
  have HNna := Lib.hid hna
  have HNnm := Lib.hid hnm
  have HNng := Lib.hid hng
  have HNnx := Lib.hid hnx
  have HNne := Lib.hid hne
  have HNnc := Lib.hid hnc
  have HNnd := Lib.hid hnd
  have HW0 := Lib.hid ((Below.refl w.heap.size w).alloc (Nat.le_refl _) (.cells #[.slice At1 nt ct, .slice Ai ni ci, .slice Af nf cf, .slice Aa na ca, .slice Am nm cm, .slice Ag ng cg, .slice Ax nx cx, .int .i64 st, .slice Ae ne ce, .slice Ac nc cc, .slice Ad nd cd] 34))
  clear r1 r2 r3 r4 r5 r6 r7 r8 r9 r10 r11 hnt hni hnf hna hnm hng hnx hne hnc hnd hst
  rw [HNnf.out] at HV0 hO2
  have hw3 : IntKind.i64.wrap ((N : Int) + (nf : Int)) = (N : Int) + (nf : Int) := IntWalk.i64_in _ (by omega)
  go_enter Tryz.func26, Tryz.ntmps26
  go_wp2_with fail
  obtain ⟨W0, hW0⟩ : ∃ W0, w.alloc (.cells #[.slice At1 nt ct, .slice Ai ni ci, .slice Af nf cf, .slice Aa na ca, .slice Am nm cm, .slice Ag ng cg, .slice Ax nx cx, .int .i64 st, .slice Ae ne ce, .slice Ac nc cc, .slice Ad nd cd] 34) = W0 := ⟨_, rfl⟩
  have HH : Hid (W0.heap[w.heap.size]? = some (.cells #[.slice At1 nt ct, .slice Ai ni ci, .slice Af nf cf, .slice Aa na ca, .slice Am nm cm, .slice Ag ng cg, .slice Ax nx cx, .int .i64 st, .slice Ae ne ce, .slice Ac nc cc, .slice Ad nd cd] 34 (0, 0))) := Lib.hid (by rw [← hW0]; exact Sec.heap_new w _)
  rw [hW0] at HW0 ⊢
  clear hW0
  refine Stab.region 42 [.is (.agg #[.slice At1 nt ct, .slice Ai ni ci, .slice Af nf cf, .slice Aa na ca, .slice Am nm cm, .slice Ag ng cg, .slice Ax nx cx, .int .i64 st, .slice Ae ne ce, .slice Ac nc cc, .slice Ad nd cd]), .is (.int .i64 0), .is (.int .i64 (N : Int)), .is (.pointer (some ⟨w.heap.size, 2, none⟩)), .is (.slice Af nf cf), .is (.int .i64 (nf : Int)), .is (.int .i64 ((N : Int) + (nf : Int))), .is (.int .i64 ((N : Int) + (nf : Int)))] (by kernel_rfl) (by kernel_rfl) rfl rfl ?_ ?_
  · with_reducible refine Stab.steps_cons ?_ ?_ ?_
    · exact Stab.owes_load rfl (fun v W hb hv => by subst hv; exact run_ldM (bx_keep HH.out hb)) rfl
    · exact trivial
    with_reducible refine Stab.steps_cons ?_ ?_ ?_
    · exact Stab.owes_move rfl rfl rfl
    · exact trivial
    with_reducible refine Stab.steps_cons ?_ ?_ ?_
    · (refine Stab.owes_call Tryz.func62 (by kernel_rfl) (by kernel_rfl) rfl (fun vs W hb hall => ?_) rfl; obtain ⟨_, _, rfl, rfl, _, _, rfl, rfl, rfl⟩ := hall; refine (HC.out W (HW0.out.trans (hb.mono HW0.out.size))).mono ?_; rintro e w2 ⟨rfl, hb2⟩; exact ⟨_, rfl, hb2, rfl⟩)
    · exact trivial
    with_reducible refine Stab.steps_cons ?_ ?_ ?_
    · exact Stab.owes_fieldAt rfl rfl (fun W => run_fM2 _ W) rfl
    · exact trivial
    with_reducible refine Stab.steps_cons ?_ ?_ ?_
    · exact Stab.owes_load rfl (fun v W hb hv => by subst hv; exact run_ldS2 _ _ _ _ _ W (Sec.cells_at (bx_keep HH.out hb) 2).1) rfl
    · exact trivial
    with_reducible refine Stab.steps_cons ?_ ?_ ?_
    · exact Stab.owes_length rfl rfl (fun W => run_lenM2 _ _ _ _ W) rfl
    · exact trivial
    with_reducible refine Stab.steps_cons ?_ ?_ ?_
    · exact Stab.owes_bin rfl rfl rfl (fun W => run_addM _ _ _ _ W hw3) rfl
    · exact trivial
    with_reducible refine Stab.steps_cons ?_ ?_ ?_
    · exact Stab.owes_assign rfl rfl rfl
    · exact trivial
    exact Stab.steps_nil
  · intro W hb _
    simp only [Act.put, List.setIfInBounds_toArray, List.set_cons_succ, List.set_cons_zero]
    have HB := Lib.hid (HW0.out.trans (hb.mono HW0.out.size))
    clear hb
    go_wp2_with fail
    exact bodyPost_ret (v := .int .i64 ((N : Int) + (nf : Int))) (by simp [results, Tryz.results26, go_sem]) rfl ⟨by rw [HV0.out]; simp, HB.out⟩
theorem pcount_1 {v : Value} {m : ModT} {w : World} (h : ModAt w v m) (hS : ShortM m) : Calls Tryz.prog 26 #[v, .int .i64 1] w fun e w' => e = .returned (.int .i64 ((cntM m 1 : Nat) : Int)) ∧ Below w.heap.size w w' := by
  have HV0 : Hid (cntM m 1 = impN m.imps 1 + m.tabs.length) := Lib.hid (by unfold cntM ownN; simp)
  have HC := Lib.hid fun W (hb : Below w.heap.size w W) => pimp_any 1 (h.keep hb)
  have hN := impN_le m.imps 1
  obtain ⟨_, s2, s3, s4, s5, s6, _, _, _, _⟩ := hS
  obtain ⟨N, hNN⟩ : ∃ N, impN m.imps 1 = N := ⟨_, rfl⟩
  rw [hNN] at HV0 HC hN
  have hN2 : N ≤ 30000 := by omega
  have hO2 : m.tabs.length ≤ 30000 := by omega
  clear hNN s2 s3 s4 s5 s6 hN
  obtain ⟨vt, vi, vf, va, vm, vg, vx, ve, vc, vd, rfl, r1, r2, r3, r4, r5, r6, r7, r8, r9, r10, r11⟩ := h
  obtain ⟨At1, ct, rfl⟩ := row_len r1
  obtain ⟨Ai, ci, rfl⟩ := row_len r2
  obtain ⟨Af, cf, rfl, _⟩ := id r3
  obtain ⟨Aa, ca, rfl⟩ := row_len r4
  obtain ⟨Am, cm, rfl⟩ := row_len r5
  obtain ⟨Ag, cg, rfl⟩ := row_len r6
  obtain ⟨Ax, cx, rfl⟩ := row_len r7
  obtain ⟨Ae, ce, rfl⟩ := row_len r9
  obtain ⟨Ac, cc, rfl⟩ := row_len r10
  obtain ⟨Ad, cd, rfl⟩ := row_len r11
  obtain ⟨nt, hnt⟩ : ∃ n, m.types.length = n := ⟨_, rfl⟩
  obtain ⟨ni, hni⟩ : ∃ n, m.imps.length = n := ⟨_, rfl⟩
  obtain ⟨nf, hnf⟩ : ∃ n, m.funcs.length = n := ⟨_, rfl⟩
  obtain ⟨na, hna⟩ : ∃ n, m.tabs.length = n := ⟨_, rfl⟩
  obtain ⟨nm, hnm⟩ : ∃ n, m.mems.length = n := ⟨_, rfl⟩
  obtain ⟨ng, hng⟩ : ∃ n, m.globs.length = n := ⟨_, rfl⟩
  obtain ⟨nx, hnx⟩ : ∃ n, m.exps.length = n := ⟨_, rfl⟩
  obtain ⟨ne, hne⟩ : ∃ n, m.elems.length = n := ⟨_, rfl⟩
  obtain ⟨nc, hnc⟩ : ∃ n, m.codes.length = n := ⟨_, rfl⟩
  obtain ⟨nd, hnd⟩ : ∃ n, m.datas.length = n := ⟨_, rfl⟩
  rw [hnt] at r1 HC ⊢
  rw [hni] at r2 HC ⊢
  rw [hnf] at r3 HC ⊢
  rw [hna] at r4 HC ⊢
  rw [hnm] at r5 HC ⊢
  rw [hng] at r6 HC ⊢
  rw [hnx] at r7 HC ⊢
  rw [hne] at r9 HC ⊢
  rw [hnc] at r10 HC ⊢
  rw [hnd] at r11 HC ⊢
  obtain ⟨st, hst⟩ : ∃ s, m.start = s := ⟨_, rfl⟩
  rw [hst] at HC ⊢
  have HNnt := Lib.hid hnt
  have HNni := Lib.hid hni
  have HNnf := Lib.hid hnf
  have HNna := Lib.hid hna
  have HNnm := Lib.hid hnm
  have HNng := Lib.hid hng
  have HNnx := Lib.hid hnx
  have HNne := Lib.hid hne
  have HNnc := Lib.hid hnc
  have HNnd := Lib.hid hnd
  have HW0 := Lib.hid ((Below.refl w.heap.size w).alloc (Nat.le_refl _) (.cells #[.slice At1 nt ct, .slice Ai ni ci, .slice Af nf cf, .slice Aa na ca, .slice Am nm cm, .slice Ag ng cg, .slice Ax nx cx, .int .i64 st, .slice Ae ne ce, .slice Ac nc cc, .slice Ad nd cd] 34))
  clear r1 r2 r3 r4 r5 r6 r7 r8 r9 r10 r11 hnt hni hnf hna hnm hng hnx hne hnc hnd hst
  rw [HNna.out] at HV0 hO2
  have hw3 : IntKind.i64.wrap ((N : Int) + (na : Int)) = (N : Int) + (na : Int) := IntWalk.i64_in _ (by omega)
  go_enter Tryz.func26, Tryz.ntmps26
  go_wp2_with fail
  obtain ⟨W0, hW0⟩ : ∃ W0, w.alloc (.cells #[.slice At1 nt ct, .slice Ai ni ci, .slice Af nf cf, .slice Aa na ca, .slice Am nm cm, .slice Ag ng cg, .slice Ax nx cx, .int .i64 st, .slice Ae ne ce, .slice Ac nc cc, .slice Ad nd cd] 34) = W0 := ⟨_, rfl⟩
  have HH : Hid (W0.heap[w.heap.size]? = some (.cells #[.slice At1 nt ct, .slice Ai ni ci, .slice Af nf cf, .slice Aa na ca, .slice Am nm cm, .slice Ag ng cg, .slice Ax nx cx, .int .i64 st, .slice Ae ne ce, .slice Ac nc cc, .slice Ad nd cd] 34 (0, 0))) := Lib.hid (by rw [← hW0]; exact Sec.heap_new w _)
  rw [hW0] at HW0 ⊢
  clear hW0
  refine Stab.region 42 [.is (.agg #[.slice At1 nt ct, .slice Ai ni ci, .slice Af nf cf, .slice Aa na ca, .slice Am nm cm, .slice Ag ng cg, .slice Ax nx cx, .int .i64 st, .slice Ae ne ce, .slice Ac nc cc, .slice Ad nd cd]), .is (.int .i64 1), .is (.int .i64 (N : Int)), .is (.pointer (some ⟨w.heap.size, 3, none⟩)), .is (.slice Aa na ca), .is (.int .i64 (na : Int)), .is (.int .i64 ((N : Int) + (na : Int))), .is (.int .i64 ((N : Int) + (na : Int)))] (by kernel_rfl) (by kernel_rfl) rfl rfl ?_ ?_
  · with_reducible refine Stab.steps_cons ?_ ?_ ?_
    · exact Stab.owes_load rfl (fun v W hb hv => by subst hv; exact run_ldM (bx_keep HH.out hb)) rfl
    · exact trivial
    with_reducible refine Stab.steps_cons ?_ ?_ ?_
    · exact Stab.owes_move rfl rfl rfl
    · exact trivial
    with_reducible refine Stab.steps_cons ?_ ?_ ?_
    · (refine Stab.owes_call Tryz.func62 (by kernel_rfl) (by kernel_rfl) rfl (fun vs W hb hall => ?_) rfl; obtain ⟨_, _, rfl, rfl, _, _, rfl, rfl, rfl⟩ := hall; refine (HC.out W (HW0.out.trans (hb.mono HW0.out.size))).mono ?_; rintro e w2 ⟨rfl, hb2⟩; exact ⟨_, rfl, hb2, rfl⟩)
    · exact trivial
    with_reducible refine Stab.steps_cons ?_ ?_ ?_
    · exact Stab.owes_fieldAt rfl rfl (fun W => run_fM3 _ W) rfl
    · exact trivial
    with_reducible refine Stab.steps_cons ?_ ?_ ?_
    · exact Stab.owes_load rfl (fun v W hb hv => by subst hv; exact run_ldS3 _ _ _ _ _ W (Sec.cells_at (bx_keep HH.out hb) 3).1) rfl
    · exact trivial
    with_reducible refine Stab.steps_cons ?_ ?_ ?_
    · exact Stab.owes_length rfl rfl (fun W => run_lenM3 _ _ _ _ W) rfl
    · exact trivial
    with_reducible refine Stab.steps_cons ?_ ?_ ?_
    · exact Stab.owes_bin rfl rfl rfl (fun W => run_addM _ _ _ _ W hw3) rfl
    · exact trivial
    with_reducible refine Stab.steps_cons ?_ ?_ ?_
    · exact Stab.owes_assign rfl rfl rfl
    · exact trivial
    exact Stab.steps_nil
  · intro W hb _
    simp only [Act.put, List.setIfInBounds_toArray, List.set_cons_succ, List.set_cons_zero]
    have HB := Lib.hid (HW0.out.trans (hb.mono HW0.out.size))
    clear hb
    go_wp2_with fail
    exact bodyPost_ret (v := .int .i64 ((N : Int) + (na : Int))) (by simp [results, Tryz.results26, go_sem]) rfl ⟨by rw [HV0.out]; simp, HB.out⟩
theorem pcount_2 {v : Value} {m : ModT} {w : World} (h : ModAt w v m) (hS : ShortM m) : Calls Tryz.prog 26 #[v, .int .i64 2] w fun e w' => e = .returned (.int .i64 ((cntM m 2 : Nat) : Int)) ∧ Below w.heap.size w w' := by
  have HV0 : Hid (cntM m 2 = impN m.imps 2 + m.mems.length) := Lib.hid (by unfold cntM ownN; simp)
  have HC := Lib.hid fun W (hb : Below w.heap.size w W) => pimp_any 2 (h.keep hb)
  have hN := impN_le m.imps 2
  obtain ⟨_, s2, s3, s4, s5, s6, _, _, _, _⟩ := hS
  obtain ⟨N, hNN⟩ : ∃ N, impN m.imps 2 = N := ⟨_, rfl⟩
  rw [hNN] at HV0 HC hN
  have hN2 : N ≤ 30000 := by omega
  have hO2 : m.mems.length ≤ 30000 := by omega
  clear hNN s2 s3 s4 s5 s6 hN
  obtain ⟨vt, vi, vf, va, vm, vg, vx, ve, vc, vd, rfl, r1, r2, r3, r4, r5, r6, r7, r8, r9, r10, r11⟩ := h
  obtain ⟨At1, ct, rfl⟩ := row_len r1
  obtain ⟨Ai, ci, rfl⟩ := row_len r2
  obtain ⟨Af, cf, rfl, _⟩ := id r3
  obtain ⟨Aa, ca, rfl⟩ := row_len r4
  obtain ⟨Am, cm, rfl⟩ := row_len r5
  obtain ⟨Ag, cg, rfl⟩ := row_len r6
  obtain ⟨Ax, cx, rfl⟩ := row_len r7
  obtain ⟨Ae, ce, rfl⟩ := row_len r9
  obtain ⟨Ac, cc, rfl⟩ := row_len r10
  obtain ⟨Ad, cd, rfl⟩ := row_len r11
  obtain ⟨nt, hnt⟩ : ∃ n, m.types.length = n := ⟨_, rfl⟩
  obtain ⟨ni, hni⟩ : ∃ n, m.imps.length = n := ⟨_, rfl⟩
  obtain ⟨nf, hnf⟩ : ∃ n, m.funcs.length = n := ⟨_, rfl⟩
  obtain ⟨na, hna⟩ : ∃ n, m.tabs.length = n := ⟨_, rfl⟩
  obtain ⟨nm, hnm⟩ : ∃ n, m.mems.length = n := ⟨_, rfl⟩
  obtain ⟨ng, hng⟩ : ∃ n, m.globs.length = n := ⟨_, rfl⟩
  obtain ⟨nx, hnx⟩ : ∃ n, m.exps.length = n := ⟨_, rfl⟩
  obtain ⟨ne, hne⟩ : ∃ n, m.elems.length = n := ⟨_, rfl⟩
  obtain ⟨nc, hnc⟩ : ∃ n, m.codes.length = n := ⟨_, rfl⟩
  obtain ⟨nd, hnd⟩ : ∃ n, m.datas.length = n := ⟨_, rfl⟩
  rw [hnt] at r1 HC ⊢
  rw [hni] at r2 HC ⊢
  rw [hnf] at r3 HC ⊢
  rw [hna] at r4 HC ⊢
  rw [hnm] at r5 HC ⊢
  rw [hng] at r6 HC ⊢
  rw [hnx] at r7 HC ⊢
  rw [hne] at r9 HC ⊢
  rw [hnc] at r10 HC ⊢
  rw [hnd] at r11 HC ⊢
  obtain ⟨st, hst⟩ : ∃ s, m.start = s := ⟨_, rfl⟩
  rw [hst] at HC ⊢
  have HNnt := Lib.hid hnt
  have HNni := Lib.hid hni
  have HNnf := Lib.hid hnf
  have HNna := Lib.hid hna
  have HNnm := Lib.hid hnm
  have HNng := Lib.hid hng
  have HNnx := Lib.hid hnx
  have HNne := Lib.hid hne
  have HNnc := Lib.hid hnc
  have HNnd := Lib.hid hnd
  have HW0 := Lib.hid ((Below.refl w.heap.size w).alloc (Nat.le_refl _) (.cells #[.slice At1 nt ct, .slice Ai ni ci, .slice Af nf cf, .slice Aa na ca, .slice Am nm cm, .slice Ag ng cg, .slice Ax nx cx, .int .i64 st, .slice Ae ne ce, .slice Ac nc cc, .slice Ad nd cd] 34))
  clear r1 r2 r3 r4 r5 r6 r7 r8 r9 r10 r11 hnt hni hnf hna hnm hng hnx hne hnc hnd hst
  rw [HNnm.out] at HV0 hO2
  have hw3 : IntKind.i64.wrap ((N : Int) + (nm : Int)) = (N : Int) + (nm : Int) := IntWalk.i64_in _ (by omega)
  go_enter Tryz.func26, Tryz.ntmps26
  go_wp2_with fail
  obtain ⟨W0, hW0⟩ : ∃ W0, w.alloc (.cells #[.slice At1 nt ct, .slice Ai ni ci, .slice Af nf cf, .slice Aa na ca, .slice Am nm cm, .slice Ag ng cg, .slice Ax nx cx, .int .i64 st, .slice Ae ne ce, .slice Ac nc cc, .slice Ad nd cd] 34) = W0 := ⟨_, rfl⟩
  have HH : Hid (W0.heap[w.heap.size]? = some (.cells #[.slice At1 nt ct, .slice Ai ni ci, .slice Af nf cf, .slice Aa na ca, .slice Am nm cm, .slice Ag ng cg, .slice Ax nx cx, .int .i64 st, .slice Ae ne ce, .slice Ac nc cc, .slice Ad nd cd] 34 (0, 0))) := Lib.hid (by rw [← hW0]; exact Sec.heap_new w _)
  rw [hW0] at HW0 ⊢
  clear hW0
  refine Stab.region 42 [.is (.agg #[.slice At1 nt ct, .slice Ai ni ci, .slice Af nf cf, .slice Aa na ca, .slice Am nm cm, .slice Ag ng cg, .slice Ax nx cx, .int .i64 st, .slice Ae ne ce, .slice Ac nc cc, .slice Ad nd cd]), .is (.int .i64 2), .is (.int .i64 (N : Int)), .is (.pointer (some ⟨w.heap.size, 4, none⟩)), .is (.slice Am nm cm), .is (.int .i64 (nm : Int)), .is (.int .i64 ((N : Int) + (nm : Int))), .is (.int .i64 ((N : Int) + (nm : Int)))] (by kernel_rfl) (by kernel_rfl) rfl rfl ?_ ?_
  · with_reducible refine Stab.steps_cons ?_ ?_ ?_
    · exact Stab.owes_load rfl (fun v W hb hv => by subst hv; exact run_ldM (bx_keep HH.out hb)) rfl
    · exact trivial
    with_reducible refine Stab.steps_cons ?_ ?_ ?_
    · exact Stab.owes_move rfl rfl rfl
    · exact trivial
    with_reducible refine Stab.steps_cons ?_ ?_ ?_
    · (refine Stab.owes_call Tryz.func62 (by kernel_rfl) (by kernel_rfl) rfl (fun vs W hb hall => ?_) rfl; obtain ⟨_, _, rfl, rfl, _, _, rfl, rfl, rfl⟩ := hall; refine (HC.out W (HW0.out.trans (hb.mono HW0.out.size))).mono ?_; rintro e w2 ⟨rfl, hb2⟩; exact ⟨_, rfl, hb2, rfl⟩)
    · exact trivial
    with_reducible refine Stab.steps_cons ?_ ?_ ?_
    · exact Stab.owes_fieldAt rfl rfl (fun W => run_fM4 _ W) rfl
    · exact trivial
    with_reducible refine Stab.steps_cons ?_ ?_ ?_
    · exact Stab.owes_load rfl (fun v W hb hv => by subst hv; exact run_ldS3 _ _ _ _ _ W (Sec.cells_at (bx_keep HH.out hb) 4).1) rfl
    · exact trivial
    with_reducible refine Stab.steps_cons ?_ ?_ ?_
    · exact Stab.owes_length rfl rfl (fun W => run_lenM3 _ _ _ _ W) rfl
    · exact trivial
    with_reducible refine Stab.steps_cons ?_ ?_ ?_
    · exact Stab.owes_bin rfl rfl rfl (fun W => run_addM _ _ _ _ W hw3) rfl
    · exact trivial
    with_reducible refine Stab.steps_cons ?_ ?_ ?_
    · exact Stab.owes_assign rfl rfl rfl
    · exact trivial
    exact Stab.steps_nil
  · intro W hb _
    simp only [Act.put, List.setIfInBounds_toArray, List.set_cons_succ, List.set_cons_zero]
    have HB := Lib.hid (HW0.out.trans (hb.mono HW0.out.size))
    clear hb
    go_wp2_with fail
    exact bodyPost_ret (v := .int .i64 ((N : Int) + (nm : Int))) (by simp [results, Tryz.results26, go_sem]) rfl ⟨by rw [HV0.out]; simp, HB.out⟩
theorem pcount_3 {v : Value} {m : ModT} {w : World} (h : ModAt w v m) (hS : ShortM m) : Calls Tryz.prog 26 #[v, .int .i64 3] w fun e w' => e = .returned (.int .i64 ((cntM m 3 : Nat) : Int)) ∧ Below w.heap.size w w' := by
  have HV0 : Hid (cntM m 3 = impN m.imps 3 + m.globs.length) := Lib.hid (by unfold cntM ownN; simp)
  have HC := Lib.hid fun W (hb : Below w.heap.size w W) => pimp_any 3 (h.keep hb)
  have hN := impN_le m.imps 3
  obtain ⟨_, s2, s3, s4, s5, s6, _, _, _, _⟩ := hS
  obtain ⟨N, hNN⟩ : ∃ N, impN m.imps 3 = N := ⟨_, rfl⟩
  rw [hNN] at HV0 HC hN
  have hN2 : N ≤ 30000 := by omega
  have hO2 : m.globs.length ≤ 30000 := by omega
  clear hNN s2 s3 s4 s5 s6 hN
  obtain ⟨vt, vi, vf, va, vm, vg, vx, ve, vc, vd, rfl, r1, r2, r3, r4, r5, r6, r7, r8, r9, r10, r11⟩ := h
  obtain ⟨At1, ct, rfl⟩ := row_len r1
  obtain ⟨Ai, ci, rfl⟩ := row_len r2
  obtain ⟨Af, cf, rfl, _⟩ := id r3
  obtain ⟨Aa, ca, rfl⟩ := row_len r4
  obtain ⟨Am, cm, rfl⟩ := row_len r5
  obtain ⟨Ag, cg, rfl⟩ := row_len r6
  obtain ⟨Ax, cx, rfl⟩ := row_len r7
  obtain ⟨Ae, ce, rfl⟩ := row_len r9
  obtain ⟨Ac, cc, rfl⟩ := row_len r10
  obtain ⟨Ad, cd, rfl⟩ := row_len r11
  obtain ⟨nt, hnt⟩ : ∃ n, m.types.length = n := ⟨_, rfl⟩
  obtain ⟨ni, hni⟩ : ∃ n, m.imps.length = n := ⟨_, rfl⟩
  obtain ⟨nf, hnf⟩ : ∃ n, m.funcs.length = n := ⟨_, rfl⟩
  obtain ⟨na, hna⟩ : ∃ n, m.tabs.length = n := ⟨_, rfl⟩
  obtain ⟨nm, hnm⟩ : ∃ n, m.mems.length = n := ⟨_, rfl⟩
  obtain ⟨ng, hng⟩ : ∃ n, m.globs.length = n := ⟨_, rfl⟩
  obtain ⟨nx, hnx⟩ : ∃ n, m.exps.length = n := ⟨_, rfl⟩
  obtain ⟨ne, hne⟩ : ∃ n, m.elems.length = n := ⟨_, rfl⟩
  obtain ⟨nc, hnc⟩ : ∃ n, m.codes.length = n := ⟨_, rfl⟩
  obtain ⟨nd, hnd⟩ : ∃ n, m.datas.length = n := ⟨_, rfl⟩
  rw [hnt] at r1 HC ⊢
  rw [hni] at r2 HC ⊢
  rw [hnf] at r3 HC ⊢
  rw [hna] at r4 HC ⊢
  rw [hnm] at r5 HC ⊢
  rw [hng] at r6 HC ⊢
  rw [hnx] at r7 HC ⊢
  rw [hne] at r9 HC ⊢
  rw [hnc] at r10 HC ⊢
  rw [hnd] at r11 HC ⊢
  obtain ⟨st, hst⟩ : ∃ s, m.start = s := ⟨_, rfl⟩
  rw [hst] at HC ⊢
  have HNnt := Lib.hid hnt
  have HNni := Lib.hid hni
  have HNnf := Lib.hid hnf
  have HNna := Lib.hid hna
  have HNnm := Lib.hid hnm
  have HNng := Lib.hid hng
  have HNnx := Lib.hid hnx
  have HNne := Lib.hid hne
  have HNnc := Lib.hid hnc
  have HNnd := Lib.hid hnd
  have HW0 := Lib.hid ((Below.refl w.heap.size w).alloc (Nat.le_refl _) (.cells #[.slice At1 nt ct, .slice Ai ni ci, .slice Af nf cf, .slice Aa na ca, .slice Am nm cm, .slice Ag ng cg, .slice Ax nx cx, .int .i64 st, .slice Ae ne ce, .slice Ac nc cc, .slice Ad nd cd] 34))
  clear r1 r2 r3 r4 r5 r6 r7 r8 r9 r10 r11 hnt hni hnf hna hnm hng hnx hne hnc hnd hst
  rw [HNng.out] at HV0 hO2
  have hw3 : IntKind.i64.wrap ((N : Int) + (ng : Int)) = (N : Int) + (ng : Int) := IntWalk.i64_in _ (by omega)
  go_enter Tryz.func26, Tryz.ntmps26
  go_wp2_with fail
  obtain ⟨W0, hW0⟩ : ∃ W0, w.alloc (.cells #[.slice At1 nt ct, .slice Ai ni ci, .slice Af nf cf, .slice Aa na ca, .slice Am nm cm, .slice Ag ng cg, .slice Ax nx cx, .int .i64 st, .slice Ae ne ce, .slice Ac nc cc, .slice Ad nd cd] 34) = W0 := ⟨_, rfl⟩
  have HH : Hid (W0.heap[w.heap.size]? = some (.cells #[.slice At1 nt ct, .slice Ai ni ci, .slice Af nf cf, .slice Aa na ca, .slice Am nm cm, .slice Ag ng cg, .slice Ax nx cx, .int .i64 st, .slice Ae ne ce, .slice Ac nc cc, .slice Ad nd cd] 34 (0, 0))) := Lib.hid (by rw [← hW0]; exact Sec.heap_new w _)
  rw [hW0] at HW0 ⊢
  clear hW0
  refine Stab.region 42 [.is (.agg #[.slice At1 nt ct, .slice Ai ni ci, .slice Af nf cf, .slice Aa na ca, .slice Am nm cm, .slice Ag ng cg, .slice Ax nx cx, .int .i64 st, .slice Ae ne ce, .slice Ac nc cc, .slice Ad nd cd]), .is (.int .i64 3), .is (.int .i64 (N : Int)), .is (.pointer (some ⟨w.heap.size, 5, none⟩)), .is (.slice Ag ng cg), .is (.int .i64 (ng : Int)), .is (.int .i64 ((N : Int) + (ng : Int))), .is (.int .i64 ((N : Int) + (ng : Int)))] (by kernel_rfl) (by kernel_rfl) rfl rfl ?_ ?_
  · with_reducible refine Stab.steps_cons ?_ ?_ ?_
    · exact Stab.owes_load rfl (fun v W hb hv => by subst hv; exact run_ldM (bx_keep HH.out hb)) rfl
    · exact trivial
    with_reducible refine Stab.steps_cons ?_ ?_ ?_
    · exact Stab.owes_move rfl rfl rfl
    · exact trivial
    with_reducible refine Stab.steps_cons ?_ ?_ ?_
    · (refine Stab.owes_call Tryz.func62 (by kernel_rfl) (by kernel_rfl) rfl (fun vs W hb hall => ?_) rfl; obtain ⟨_, _, rfl, rfl, _, _, rfl, rfl, rfl⟩ := hall; refine (HC.out W (HW0.out.trans (hb.mono HW0.out.size))).mono ?_; rintro e w2 ⟨rfl, hb2⟩; exact ⟨_, rfl, hb2, rfl⟩)
    · exact trivial
    with_reducible refine Stab.steps_cons ?_ ?_ ?_
    · exact Stab.owes_fieldAt rfl rfl (fun W => run_fM5 _ W) rfl
    · exact trivial
    with_reducible refine Stab.steps_cons ?_ ?_ ?_
    · exact Stab.owes_load rfl (fun v W hb hv => by subst hv; exact run_ldS5 _ _ _ _ _ W (Sec.cells_at (bx_keep HH.out hb) 5).1) rfl
    · exact trivial
    with_reducible refine Stab.steps_cons ?_ ?_ ?_
    · exact Stab.owes_length rfl rfl (fun W => run_lenM5 _ _ _ _ W) rfl
    · exact trivial
    with_reducible refine Stab.steps_cons ?_ ?_ ?_
    · exact Stab.owes_bin rfl rfl rfl (fun W => run_addM _ _ _ _ W hw3) rfl
    · exact trivial
    with_reducible refine Stab.steps_cons ?_ ?_ ?_
    · exact Stab.owes_assign rfl rfl rfl
    · exact trivial
    exact Stab.steps_nil
  · intro W hb _
    simp only [Act.put, List.setIfInBounds_toArray, List.set_cons_succ, List.set_cons_zero]
    have HB := Lib.hid (HW0.out.trans (hb.mono HW0.out.size))
    clear hb
    go_wp2_with fail
    exact bodyPost_ret (v := .int .i64 ((N : Int) + (ng : Int))) (by simp [results, Tryz.results26, go_sem]) rfl ⟨by rw [HV0.out]; simp, HB.out⟩
end Go.Proofs.YtffegkjlgeblbaaGreatDoor.Mdl
