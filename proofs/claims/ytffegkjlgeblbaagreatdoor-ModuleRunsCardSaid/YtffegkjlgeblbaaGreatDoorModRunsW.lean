/- ModRunsW. -/
import Derived.Test.YtffegkjlgeblbaaGreatDoorPkModLd
import Derived.Test.YtffegkjlgeblbaaGreatDoorModPCnt
import Derived.Test.YtffegkjlgeblbaaGreatDoorPkModPR
import Derived.Test.YtffegkjlgeblbaaGreatDoorModFew
import Derived.Test.YtffegkjlgeblbaaGreatDoorModPA
/- ModuleRuns, walked. -/
namespace Go.Proofs.YtffegkjlgeblbaaGreatDoor.Mdl
open Go.RowKit Ints Typ Ins
set_option maxRecDepth 100000
set_option maxHeartbeats 4000000
set_option linter.unusedVariables false
theorem FewM.short {m : ModT} (h : FewM m) : ShortM m := by
  obtain ⟨⟨h0, h1, h2, h3, h4, h5, h6, h7, h8, h9⟩, _⟩ := h
  exact ⟨by omega, by omega, by omega, by omega, by omega, by omega, by omega, by omega, by omega, by omega⟩
theorem owes_lenF {P : Program} {ops : Array Oper} {w0 : World} {a0 : Act} {env : List (Tmp × Stab.Sp)} {o : Oper} {x : Operand} {T : TypeId} {R : Value → World → Prop} {c : Value} (ho : o.op = .call { callee := .builtin .len, args := #[x], argTypes := #[T] }) (hx : Stab.evalS a0 env x = .fits R) (hr : ∀ v w W, R v w → (Builtin.len_ #[T] o.type #[v]).run P W = .ok c W) (hw : Stab.wantB ops a0 env o = true) : Stab.Owes P ops w0 a0 env o (.is c) :=
  Stab.owes_run hw fun ρ w _ hρ => by
    have h1 := hρ x (by simp [ho, Op.operands, Call.operands])
    rw [hx] at h1
    have h1 : R (ρ x) w := h1
    simp only [execOp, ho, resolve, List.map_toArray, List.map_cons, List.map_nil]
    simp [go_sem, invoke, builtin]
    rw [hr _ _ _ h1]
    exact ⟨Below.refl _ _, rfl⟩
theorem run_eqlM (x y : Operand) (a b : Int) (W : World) (h : a = b) : (do eqGuard BinOp.eql 3 x y (.int .i64 a) (.int .i64 b); binOp BinOp.eql 3 (.int .i64 a) (.int .i64 b) : Sem Value).run Tryz.prog W = .ok (.bool true) W := by
  subst h
  go_simp
theorem run_subM (x y : Operand) (a b : Int) (W : World) (h : IntKind.i64.wrap (a - b) = a - b) : (do eqGuard BinOp.sub 3 x y (.int .i64 a) (.int .i64 b); binOp BinOp.sub 3 (.int .i64 a) (.int .i64 b) : Sem Value).run Tryz.prog W = .ok (.int .i64 (a - b)) W := by go_simp
theorem run_lenB (A : Option Addr) (n c : Nat) (ty : TypeId) (W : World) : (Builtin.len_ #[22] ty #[.slice A n c]).run Tryz.prog W = .ok (.int .i64 (n : Int)) W := by go_simp
theorem run_lenM1 (A : Option Addr) (n c : Nat) (ty : TypeId) (W : World) : (Builtin.len_ #[25] ty #[.slice A n c]).run Tryz.prog W = .ok (.int .i64 (n : Int)) W := by go_simp
theorem run_fM1 (b : Nat) (W : World) : (Instr.fieldAt 34 (.pointer (some ⟨b, 0, none⟩)) 1).run Tryz.prog W = .ok (.pointer (some ⟨b, 1, none⟩)) W := by go_simp
theorem run_ldS1 (A : Option Addr) (n c g o : Nat) (W : World) (h : W.cell? ⟨g, o, none⟩ = some (.slice A n c)) : (Instr.loadAt 25 (.pointer (some ⟨g, o, none⟩))).run Tryz.prog W = .ok (.slice A n c) W := by go_simp
theorem runs_law {A : Option Addr} {n c : Nat} {l : List Int} {v : Value} {m : ModT} {w : World} (hn : l.length = n) (hs : Utf.Sl w (.slice A n c) l) (hb : ∀ y ∈ l, 0 ≤ y ∧ y < 256) (h : ModAt w v m) :
    Calls Tryz.prog 8 #[.slice A n c, v] w fun e w' => e = .returned (.bool true) ∧ Below w.heap.size w w' := by
  have HN := Lib.hid hn
  have HS := Lib.hid hs
  have HBY := Lib.hid hb
  have HM := Lib.hid h
  obtain ⟨vt, vi, vf, va, vm, vg, vx, ve, vc, vd, rfl, r1, r2, r3, r4, r5, r6, r7, r8, r9, r10, r11⟩ := h
  obtain ⟨At1, ct, rfl⟩ := row_len r1
  obtain ⟨Ai, ci, rfl⟩ := row_len r2
  obtain ⟨Af, cf, rfl, hjunk⟩ := id r3
  clear hjunk
  obtain ⟨Aa, ca, rfl⟩ := row_len r4
  obtain ⟨Am, cm, rfl⟩ := row_len r5
  obtain ⟨Ag, cg, rfl⟩ := row_len r6
  obtain ⟨Ax, cx, rfl⟩ := row_len r7
  obtain ⟨Ae, ce, rfl⟩ := row_len r9
  obtain ⟨Ac, cc, rfl⟩ := row_len r10
  obtain ⟨Ad, cd, rfl⟩ := row_len r11
  have HRI := Lib.hid r2
  obtain ⟨nt, hnt⟩ : ∃ k, m.types.length = k := ⟨_, rfl⟩
  obtain ⟨ni, hni⟩ : ∃ k, m.imps.length = k := ⟨_, rfl⟩
  obtain ⟨nf, hnf⟩ : ∃ k, m.funcs.length = k := ⟨_, rfl⟩
  obtain ⟨na, hna⟩ : ∃ k, m.tabs.length = k := ⟨_, rfl⟩
  obtain ⟨nm, hnm⟩ : ∃ k, m.mems.length = k := ⟨_, rfl⟩
  obtain ⟨ng, hng⟩ : ∃ k, m.globs.length = k := ⟨_, rfl⟩
  obtain ⟨nx, hnx⟩ : ∃ k, m.exps.length = k := ⟨_, rfl⟩
  obtain ⟨ne, hne⟩ : ∃ k, m.elems.length = k := ⟨_, rfl⟩
  obtain ⟨nc, hnc⟩ : ∃ k, m.codes.length = k := ⟨_, rfl⟩
  obtain ⟨nd, hnd⟩ : ∃ k, m.datas.length = k := ⟨_, rfl⟩
  rw [hnt, hni, hnf, hna, hnm, hng, hnx, hne, hnc, hnd] at HM ⊢
  rw [hni] at HRI
  obtain ⟨st, hst⟩ : ∃ s, m.start = s := ⟨_, rfl⟩
  rw [hst] at HM ⊢
  have HNI := Lib.hid hni
  have HNF := Lib.hid hnf
  have HNA := Lib.hid hna
  have HNM := Lib.hid hnm
  have HNG := Lib.hid hng
  have HB0 := Lib.hid ((Below.refl w.heap.size w).alloc (Nat.le_refl _) (.cells #[.slice At1 nt ct, .slice Ai ni ci, .slice Af nf cf, .slice Aa na ca, .slice Am nm cm, .slice Ag ng cg, .slice Ax nx cx, .int .i64 st, .slice Ae ne ce, .slice Ac nc cc, .slice Ad nd cd] 34))
  have HBX := Lib.hid (Sec.heap_new w (.cells #[.slice At1 nt ct, .slice Ai ni ci, .slice Af nf cf, .slice Aa na ca, .slice Am nm cm, .slice Ag ng cg, .slice Ax nx cx, .int .i64 st, .slice Ae ne ce, .slice Ac nc cc, .slice Ad nd cd] 34))
  clear hn hs hb r1 r2 r3 r4 r5 r6 r7 r8 r9 r10 r11 hnt hni hnf hna hnm hng hnx hne hnc hnd hst
  go_enter Tryz.func8, Tryz.ntmps8
  go_wp2_with fail
  refine (awake8_any _).mono ?_
  rintro en w1 ⟨rfl, hb1⟩
  have HX1 : Hid (w1.heap[w.heap.size]? = some (.cells #[.slice At1 nt ct, .slice Ai ni ci, .slice Af nf cf, .slice Aa na ca, .slice Am nm cm, .slice Ag ng cg, .slice Ax nx cx, .int .i64 st, .slice Ae ne ce, .slice Ac nc cc, .slice Ad nd cd] 34 (0, 0))) := Lib.hid (by rw [hb1.block _ (by simp)]; exact HBX.out)
  have HB1 := Lib.hid (HB0.out.trans (hb1.mono HB0.out.size))
  clear hb1 HB0 HBX
  have a0 := (Sec.cells_at HX1.out 0).1
  have a1 := (Sec.cells_at HX1.out 1).1
  have a2 := (Sec.cells_at HX1.out 2).1
  have a3 := (Sec.cells_at HX1.out 3).1
  have a4 := (Sec.cells_at HX1.out 4).1
  have a5 := (Sec.cells_at HX1.out 5).1
  have a6 := (Sec.cells_at HX1.out 6).1
  have a7 := (Sec.cells_at HX1.out 7).1
  have a8 := (Sec.cells_at HX1.out 8).1
  have a9 := (Sec.cells_at HX1.out 9).1
  have a10 := (Sec.cells_at HX1.out 10).1
  by_cases hbig : 300 < n
  · have t1 : decide ((n : Int) > 300) = true := decide_eq_true (by omega)
    have t2 : (300 : Int) < (n : Int) := by omega
    go_wp2_with fail
    exact bodyPost_ret (v := .bool true) (by simp [results, Tryz.results8, go_sem]) rfl ⟨rfl, HB1.out⟩
  · have t1 : decide ((n : Int) > 300) = false := decide_eq_false (by omega)
    have t2 : ¬ (300 : Int) < (n : Int) := by omega
    have HFEW := Lib.hid (few_m (HM.out.keep HB1.out))
    go_wp2_with fail
    refine HFEW.out.mono ?_
    rintro en w2 ⟨b, rfl, hfew, hb2⟩
    have HX2 : Hid (w2.heap[w.heap.size]? = some (.cells #[.slice At1 nt ct, .slice Ai ni ci, .slice Af nf cf, .slice Aa na ca, .slice Am nm cm, .slice Ag ng cg, .slice Ax nx cx, .int .i64 st, .slice Ae ne ce, .slice Ac nc cc, .slice Ad nd cd] 34 (0, 0))) := Lib.hid (by rw [hb2.block _ (Array.getElem?_eq_some_iff.1 HX1.out).1]; exact HX1.out)
    have HB2 := Lib.hid (HB1.out.trans (hb2.mono HB1.out.size))
    clear hb2 HB1 HX1 a0 a1 a2 a3 a4 a5 a6 a7 a8 a9 a10
    cases b with
    | false =>
      go_wp2_with fail
      exact bodyPost_ret (v := .bool true) (by simp [results, Tryz.results8, go_sem]) rfl ⟨rfl, HB2.out⟩
    | true =>
      have HSH := Lib.hid (hfew rfl).short
      clear hfew
      have HRN := Lib.hid (pruns_any HN.out (HS.out.keep HB2.out) HBY.out (by omega))
      go_wp2_with fail
      refine HRN.out.mono ?_
      rintro en w3 ⟨⟨vr, rfl, hr⟩, hb3⟩
      have HB3 := Lib.hid (HB2.out.trans (hb3.mono HB2.out.size))
      have HX3 : Hid (w3.heap[w.heap.size]? = some (.cells #[.slice At1 nt ct, .slice Ai ni ci, .slice Af nf cf, .slice Aa na ca, .slice Am nm cm, .slice Ag ng cg, .slice Ax nx cx, .int .i64 st, .slice Ae ne ce, .slice Ac nc cc, .slice Ad nd cd] 34 (0, 0))) := Lib.hid (by rw [hb3.block _ (Array.getElem?_eq_some_iff.1 HX2.out).1]; exact HX2.out)
      obtain ⟨PR, cR, rfl⟩ := hr.form
      have HRW : Hid (RowG.Row elP w3 (.slice PR (runs l).length cR) (runs l)) := Lib.hid (hr.row fun _ _ => trivial)
      have HSM := Lib.hid (runs_small l)
      obtain ⟨nR, hnR⟩ : ∃ k, (runs l).length = k := ⟨_, rfl⟩
      have HNR := Lib.hid hnR
      rw [hnR] at HRW HSM ⊢
      clear hr hb3 hnR HX2 HRN
      have hnR2 : nR ≤ 300 := by have := HSM.out.1; rw [HN.out] at this; omega
      go_wp2_with fail
      go_loopw [7, 8] (fun at' i' wr => ∃ i : Nat, i' = .int .i64 (i : Int) ∧ at' = .int .i64 ((atR (runs l) i : Nat) : Int) ∧ i ≤ nR ∧ Below w3.heap.size w3 wr) (fun _ i' _ => nR - (intOf i').toNat)
      case atStart => exact ⟨0, by go_num, by rw [atR_zero]; rfl, by omega, Below.refl _ _⟩
      case round =>
        obtain ⟨i, rfl, rfl, hi, hW⟩ := hrel
        have HW := Lib.hid hW
        clear hW
        by_cases hlt : i < nR
        · obtain ⟨⟨c0, y0⟩, hq⟩ : ∃ p, (runs l)[i]? = some p := ⟨_, List.getElem?_eq_getElem (by rw [HNR.out]; exact hlt)⟩
          have HQ := Lib.hid hq
          obtain ⟨cN, rfl⟩ : ∃ k : Nat, c0 = (k : Int) := ⟨c0.toNat, by have := run_pos hq; omega⟩
          have HC0 := Lib.hid (run_pos hq)
          have HC1 : Hid ((cN : Int) ≤ 300) := Lib.hid (by have := (HSM.out.2 _ (List.mem_of_getElem? hq)).2; rw [HN.out] at this; simp only at this; omega)
          have HNX := Lib.hid (atR_next hq)
          have HIN := Lib.hid fun k hk => atR_in (k := k) hq hk
          obtain ⟨gR, oR, rfl, hgR, hA, _⟩ := (HRW.out.keep HW.out).at_ hq
          rw [show elP.s = 2 from rfl] at hA
          have q0 := hA 0 (.int .i64 (cN : Int)) rfl
          have q1 := hA 1 (.int .i64 y0) rfl
          rw [Nat.add_zero] at q0
          have i1 : (0 : Int) ≤ (i : Int) := by omega
          have i2 : (i : Int) < (nR : Int) := by omega
          have t3 : decide ((cN : Int) < 1) = false := decide_eq_false (by have := HC0.out; omega)
          have t4 : decide ((300 : Int) < (cN : Int)) = false := decide_eq_false (by have := HC1.out; omega)
          have hw1 : IntKind.i64.wrap ((i : Int) + 1) = (i : Int) + 1 := IntWalk.i64_in _ (by omega)
          clear hA hgR hq
          obtain ⟨a, ha⟩ : ∃ a, atR (runs l) i = a := ⟨_, rfl⟩
          rw [ha] at HNX HIN ⊢
          clear ha
          by_cases h0 : i = 0
          · have t5 : decide ((0 : Int) < (i : Int)) = false := decide_eq_false (by omega)
            have t7 : decide (0 < i) = false := decide_eq_false (by omega)
            clear h0
            go_wp2_with fail
            go_quiet (fail)
            go_wp2_with fail
            go_loopw [7, 9] (fun at' k' wr => ∃ k : Nat, k' = .int .i64 (k : Int) ∧ at' = .int .i64 ((a + k : Nat) : Int) ∧ k ≤ cN ∧ Below w3.heap.size w3 wr) (fun _ k' _ => cN - (intOf k').toNat)
            case atStart => exact ⟨0, by go_num, by rw [Nat.add_zero], by omega, HW.out.trans (drewNB _ _ HW.out.size)⟩
            case round =>
              obtain ⟨k, rfl, rfl, hk, hW2⟩ := hrel
              have HW2 := Lib.hid hW2
              obtain ⟨g', o', e', hg', hA', hok'⟩ := (HRW.out.keep HW2.out).at_ HQ.out
              have e3' := Option.some.inj e'
              simp only [Addr.mk.injEq, and_true] at e3'
              obtain ⟨rfl, rfl⟩ := e3'
              rw [show elP.s = 2 from rfl] at hA'
              have z0 := hA' 0 (.int .i64 (cN : Int)) rfl
              have z1 := hA' 1 (.int .i64 y0) rfl
              rw [Nat.add_zero] at z0
              clear hA' hg' e' hok' hW2
              by_cases hlk : k < cN
              · have k2 : (k : Int) < (cN : Int) := by omega
                have t8 : decide ((k : Int) < (cN : Int)) = true := decide_eq_true k2
                have hwk : IntKind.i64.wrap ((k : Int) + 1) = (k : Int) + 1 := IntWalk.i64_in _ (by have := HC1.out; omega)
                obtain ⟨t, ht⟩ : ∃ t, a + k = t := ⟨_, rfl⟩
                have HT := Lib.hid ht
                have HLY : Hid (t < n ∧ l[t]? = some y0) := Lib.hid (by
                  have := HIN.out k (by omega)
                  rw [ht, HN.out] at this
                  exact this)
                have hl0 := HLY.out.1
                have hy0 : 0 ≤ y0 ∧ y0 < 256 := HBY.out _ (List.mem_of_getElem? HLY.out.2)
                obtain ⟨gl, ol, rfl, _⟩ : ∃ g off, A = some ⟨g, off, none⟩ ∧ True := by
                  obtain ⟨A', c', e, _, _, h4⟩ := HS.out
                  obtain ⟨g, off, e', _⟩ := h4 (fun e => by have := HN.out; rw [e] at this; simp at this; omega)
                  injection e with e1 _ _
                  exact ⟨g, off, e1.trans e', trivial⟩
                have l0 := Sec.sl_cell (HS.out.keep (HB3.out.trans (HW2.out.mono HB3.out.size))) (k := t) (by rw [HN.out]; exact hl0)
                rw [List.getD_eq_getElem?_getD, HLY.out.2, Option.getD_some] at l0
                have hwy : IntKind.i64.wrap y0 = y0 := IntWalk.i64_in _ (by omega)
                have hwt : IntKind.i64.wrap ((t : Int) + 1) = (t : Int) + 1 := IntWalk.i64_in _ (by omega)
                have t9 : decide ((n : Int) ≤ (t : Int)) = false := decide_eq_false (by omega)
                have t10 : decide (n ≤ t) = false := decide_eq_false (by omega)
                have l1 : (0 : Int) ≤ (t : Int) := by omega
                have l2 : (t : Int) < (n : Int) := by omega
                rw [ht]
                clear ht
                go_wp2_with fail
                go_quiet (fail)
                go_wp2_with fail
                go_roundw
                case rel => exact ⟨k + 1, by go_num, by rw [← HT.out]; go_num, hlk, HW2.out.trans (drewNB _ _ HW2.out.size)⟩
                case measure => simp [intOf]; omega
              · have hkc : k = cN := by omega
                subst hkc
                have t8 : decide ((k : Int) < (k : Int)) = false := decide_eq_false (by omega)
                go_wp2_with fail
                go_roundw
                case rel => exact ⟨i + 1, by go_num, by rw [HNX.out, Int.toNat_natCast], hlt, HW2.out⟩
                case measure => simp [intOf]; omega
          · obtain ⟨j, hj⟩ : ∃ j, i = j + 1 := ⟨i - 1, by omega⟩
            have t5 : decide ((0 : Int) < (i : Int)) = true := decide_eq_true (by omega)
            have t7 : decide (0 < i) = true := decide_eq_true (by omega)
            have j1 : (0 : Int) ≤ (j : Int) := by omega
            have j2 : (j : Int) < (nR : Int) := by omega
            have hwj : IntKind.i64.wrap ((i : Int) - 1) = (j : Int) := by rw [IntWalk.i64_in _ (by omega)]; omega
            obtain ⟨⟨d0, y1⟩, hqj⟩ : ∃ p, (runs l)[j]? = some p := ⟨_, List.getElem?_eq_getElem (by rw [HNR.out]; omega)⟩
            have hne : y0 ≠ y1 := run_adj hqj (by rw [← hj]; exact HQ.out)
            have t6 : (y0 == y1) = false := by simpa using hne
            obtain ⟨gR2, oR2, e2, hgR2, hA2, _⟩ := (HRW.out.keep HW.out).at_ hqj
            have e3 := Option.some.inj e2
            simp only [Addr.mk.injEq, and_true] at e3
            obtain ⟨rfl, rfl⟩ := e3
            rw [show elP.s = 2 from rfl] at hA2
            have p1 := hA2 1 (.int .i64 y1) rfl
            clear hA2 hgR2 hqj hj h0 e2
            go_wp2_with fail
            go_quiet (fail)
            go_wp2_with fail
            go_loopw [7, 9] (fun at' k' wr => ∃ k : Nat, k' = .int .i64 (k : Int) ∧ at' = .int .i64 ((a + k : Nat) : Int) ∧ k ≤ cN ∧ Below w3.heap.size w3 wr) (fun _ k' _ => cN - (intOf k').toNat)
            case atStart => exact ⟨0, by go_num, by rw [Nat.add_zero], by omega, HW.out.trans (drewNB _ _ HW.out.size)⟩
            case round =>
              obtain ⟨k, rfl, rfl, hk, hW2⟩ := hrel
              have HW2 := Lib.hid hW2
              obtain ⟨g', o', e', hg', hA', hok'⟩ := (HRW.out.keep HW2.out).at_ HQ.out
              have e3' := Option.some.inj e'
              simp only [Addr.mk.injEq, and_true] at e3'
              obtain ⟨rfl, rfl⟩ := e3'
              rw [show elP.s = 2 from rfl] at hA'
              have z0 := hA' 0 (.int .i64 (cN : Int)) rfl
              have z1 := hA' 1 (.int .i64 y0) rfl
              rw [Nat.add_zero] at z0
              clear hA' hg' e' hok' hW2
              by_cases hlk : k < cN
              · have k2 : (k : Int) < (cN : Int) := by omega
                have t8 : decide ((k : Int) < (cN : Int)) = true := decide_eq_true k2
                have hwk : IntKind.i64.wrap ((k : Int) + 1) = (k : Int) + 1 := IntWalk.i64_in _ (by have := HC1.out; omega)
                obtain ⟨t, ht⟩ : ∃ t, a + k = t := ⟨_, rfl⟩
                have HT := Lib.hid ht
                have HLY : Hid (t < n ∧ l[t]? = some y0) := Lib.hid (by
                  have := HIN.out k (by omega)
                  rw [ht, HN.out] at this
                  exact this)
                have hl0 := HLY.out.1
                have hy0 : 0 ≤ y0 ∧ y0 < 256 := HBY.out _ (List.mem_of_getElem? HLY.out.2)
                obtain ⟨gl, ol, rfl, _⟩ : ∃ g off, A = some ⟨g, off, none⟩ ∧ True := by
                  obtain ⟨A', c', e, _, _, h4⟩ := HS.out
                  obtain ⟨g, off, e', _⟩ := h4 (fun e => by have := HN.out; rw [e] at this; simp at this; omega)
                  injection e with e1 _ _
                  exact ⟨g, off, e1.trans e', trivial⟩
                have l0 := Sec.sl_cell (HS.out.keep (HB3.out.trans (HW2.out.mono HB3.out.size))) (k := t) (by rw [HN.out]; exact hl0)
                rw [List.getD_eq_getElem?_getD, HLY.out.2, Option.getD_some] at l0
                have hwy : IntKind.i64.wrap y0 = y0 := IntWalk.i64_in _ (by omega)
                have hwt : IntKind.i64.wrap ((t : Int) + 1) = (t : Int) + 1 := IntWalk.i64_in _ (by omega)
                have t9 : decide ((n : Int) ≤ (t : Int)) = false := decide_eq_false (by omega)
                have t10 : decide (n ≤ t) = false := decide_eq_false (by omega)
                have l1 : (0 : Int) ≤ (t : Int) := by omega
                have l2 : (t : Int) < (n : Int) := by omega
                rw [ht]
                clear ht
                go_wp2_with fail
                go_quiet (fail)
                go_wp2_with fail
                go_roundw
                case rel => exact ⟨k + 1, by go_num, by rw [← HT.out]; go_num, hlk, HW2.out.trans (drewNB _ _ HW2.out.size)⟩
                case measure => simp [intOf]; omega
              · have hkc : k = cN := by omega
                subst hkc
                have t8 : decide ((k : Int) < (k : Int)) = false := decide_eq_false (by omega)
                go_wp2_with fail
                go_roundw
                case rel => exact ⟨i + 1, by go_num, by rw [HNX.out, Int.toNat_natCast], hlt, HW2.out⟩
                case measure => simp [intOf]; omega
        · have hin : i = nR := by omega
          subst hin
          have HAT : Hid (atR (runs l) i = n) := Lib.hid (by rw [← HNR.out, atR_all, HN.out])
          rw [HAT.out]
          have HBR : Hid (Below w.heap.size w wr) := Lib.hid (HB3.out.trans (HW.out.mono HB3.out.size))
          have HXR : Hid (wr.heap[w.heap.size]? = some (.cells #[.slice At1 nt ct, .slice Ai ni ci, .slice Af nf cf, .slice Aa na ca, .slice Am nm cm, .slice Ag ng cg, .slice Ax nx cx, .int .i64 st, .slice Ae ne ce, .slice Ac nc cc, .slice Ad nd cd] 34 (0, 0))) := Lib.hid (by rw [HW.out.block _ (Array.getElem?_eq_some_iff.1 HX3.out).1]; exact HX3.out)
          have HSUM := Lib.hid (cnt_all m)
          have HFC := Lib.hid (funcs_cnt m)
          have HOD := Lib.hid (oddN_le m.imps)
          rw [HNI.out, HNF.out, HNA.out, HNM.out, HNG.out] at HSUM
          rw [HNI.out] at HOD
          have HSZ : Hid (ni ≤ 30000 ∧ nf ≤ 30000 ∧ na ≤ 30000 ∧ nm ≤ 30000 ∧ ng ≤ 30000) := Lib.hid (by
            obtain ⟨_, s2, s3, s4, s5, s6, _⟩ := HSH.out
            rw [HNI.out] at s2
            rw [HNF.out] at s3
            rw [HNA.out] at s4
            rw [HNM.out] at s5
            rw [HNG.out] at s6
            exact ⟨s2, s3, s4, s5, s6⟩)
          obtain ⟨k0, hk0⟩ : ∃ k, cntM m 0 = k := ⟨_, rfl⟩
          have HC0 : Hid (∀ W, Below w.heap.size w W → Calls Tryz.prog 26 #[(.agg #[.slice At1 nt ct, .slice Ai ni ci, .slice Af nf cf, .slice Aa na ca, .slice Am nm cm, .slice Ag ng cg, .slice Ax nx cx, .int .i64 st, .slice Ae ne ce, .slice Ac nc cc, .slice Ad nd cd]), .int .i64 0] W fun e w' => e = .returned (.int .i64 ((k0 : Nat) : Int)) ∧ Below W.heap.size W w') := Lib.hid fun W hb => by rw [← hk0]; exact pcount_0 (HM.out.keep hb) HSH.out
          obtain ⟨k1, hk1⟩ : ∃ k, cntM m 1 = k := ⟨_, rfl⟩
          have HC1 : Hid (∀ W, Below w.heap.size w W → Calls Tryz.prog 26 #[(.agg #[.slice At1 nt ct, .slice Ai ni ci, .slice Af nf cf, .slice Aa na ca, .slice Am nm cm, .slice Ag ng cg, .slice Ax nx cx, .int .i64 st, .slice Ae ne ce, .slice Ac nc cc, .slice Ad nd cd]), .int .i64 1] W fun e w' => e = .returned (.int .i64 ((k1 : Nat) : Int)) ∧ Below W.heap.size W w') := Lib.hid fun W hb => by rw [← hk1]; exact pcount_1 (HM.out.keep hb) HSH.out
          obtain ⟨k2, hk2⟩ : ∃ k, cntM m 2 = k := ⟨_, rfl⟩
          have HC2 : Hid (∀ W, Below w.heap.size w W → Calls Tryz.prog 26 #[(.agg #[.slice At1 nt ct, .slice Ai ni ci, .slice Af nf cf, .slice Aa na ca, .slice Am nm cm, .slice Ag ng cg, .slice Ax nx cx, .int .i64 st, .slice Ae ne ce, .slice Ac nc cc, .slice Ad nd cd]), .int .i64 2] W fun e w' => e = .returned (.int .i64 ((k2 : Nat) : Int)) ∧ Below W.heap.size W w') := Lib.hid fun W hb => by rw [← hk2]; exact pcount_2 (HM.out.keep hb) HSH.out
          obtain ⟨k3, hk3⟩ : ∃ k, cntM m 3 = k := ⟨_, rfl⟩
          have HC3 : Hid (∀ W, Below w.heap.size w W → Calls Tryz.prog 26 #[(.agg #[.slice At1 nt ct, .slice Ai ni ci, .slice Af nf cf, .slice Aa na ca, .slice Am nm cm, .slice Ag ng cg, .slice Ax nx cx, .int .i64 st, .slice Ae ne ce, .slice Ac nc cc, .slice Ad nd cd]), .int .i64 3] W fun e w' => e = .returned (.int .i64 ((k3 : Nat) : Int)) ∧ Below W.heap.size W w') := Lib.hid fun W hb => by rw [← hk3]; exact pcount_3 (HM.out.keep hb) HSH.out
          rw [hk0, hk1, hk2, hk3] at HSUM
          rw [hk0] at HFC
          clear hk0 hk1 hk2 hk3
          have hsum := HSUM.out
          obtain ⟨z1, z2, z3, z4, z5⟩ := HSZ.out
          have hw01 : IntKind.i64.wrap ((k0 : Int) + (k1 : Int)) = (k0 : Int) + (k1 : Int) := IntWalk.i64_in _ (by omega)
          have hw02 : IntKind.i64.wrap ((k0 : Int) + (k1 : Int) + (k2 : Int)) = (k0 : Int) + (k1 : Int) + (k2 : Int) := IntWalk.i64_in _ (by omega)
          have hw03 : IntKind.i64.wrap ((k0 : Int) + (k1 : Int) + (k2 : Int) + (k3 : Int)) = (k0 : Int) + (k1 : Int) + (k2 : Int) + (k3 : Int) := IntWalk.i64_in _ (by omega)
          clear hsum z1 z2 z3 z4 z5
          go_wp2_with fail
          refine Stab.region 167 [.is (.agg #[.slice At1 nt ct, .slice Ai ni ci, .slice Af nf cf, .slice Aa na ca, .slice Am nm cm, .slice Ag ng cg, .slice Ax nx cx, .int .i64 st, .slice Ae ne ce, .slice Ac nc cc, .slice Ad nd cd]), .is (.int .i64 (k0 : Int)), .is (.agg #[.slice At1 nt ct, .slice Ai ni ci, .slice Af nf cf, .slice Aa na ca, .slice Am nm cm, .slice Ag ng cg, .slice Ax nx cx, .int .i64 st, .slice Ae ne ce, .slice Ac nc cc, .slice Ad nd cd]), .is (.int .i64 (k1 : Int)), .is (.int .i64 ((k0 : Int) + (k1 : Int))), .is (.agg #[.slice At1 nt ct, .slice Ai ni ci, .slice Af nf cf, .slice Aa na ca, .slice Am nm cm, .slice Ag ng cg, .slice Ax nx cx, .int .i64 st, .slice Ae ne ce, .slice Ac nc cc, .slice Ad nd cd]), .is (.int .i64 (k2 : Int)), .is (.int .i64 ((k0 : Int) + (k1 : Int) + (k2 : Int))), .is (.agg #[.slice At1 nt ct, .slice Ai ni ci, .slice Af nf cf, .slice Aa na ca, .slice Am nm cm, .slice Ag ng cg, .slice Ax nx cx, .int .i64 st, .slice Ae ne ce, .slice Ac nc cc, .slice Ad nd cd]), .is (.int .i64 (k3 : Int)), .is (.int .i64 ((k0 : Int) + (k1 : Int) + (k2 : Int) + (k3 : Int))), .is (.int .i64 ((k0 : Int) + (k1 : Int) + (k2 : Int) + (k3 : Int)))] (by kernel_rfl) (by kernel_rfl) rfl rfl ?_ ?_
          · skip
            with_reducible refine Stab.steps_cons ?_ ?_ ?_
            · exact Stab.owes_load rfl (fun v W hb hv => by subst hv; exact run_ldM (bx_keep HXR.out hb)) rfl
            · exact trivial
            with_reducible refine Stab.steps_cons ?_ ?_ ?_
            · (refine Stab.owes_call Tryz.func26 (by kernel_rfl) (by kernel_rfl) rfl (fun vs W hb hall => ?_) rfl; obtain ⟨_, _, rfl, rfl, _, _, rfl, rfl, rfl⟩ := hall; refine (HC0.out W (HBR.out.trans (hb.mono HBR.out.size))).mono ?_; rintro e w2 ⟨rfl, hb2⟩; exact ⟨_, rfl, hb2, rfl⟩)
            · exact trivial
            with_reducible refine Stab.steps_cons ?_ ?_ ?_
            · exact Stab.owes_load rfl (fun v W hb hv => by subst hv; exact run_ldM (bx_keep HXR.out hb)) rfl
            · exact trivial
            with_reducible refine Stab.steps_cons ?_ ?_ ?_
            · (refine Stab.owes_call Tryz.func26 (by kernel_rfl) (by kernel_rfl) rfl (fun vs W hb hall => ?_) rfl; obtain ⟨_, _, rfl, rfl, _, _, rfl, rfl, rfl⟩ := hall; refine (HC1.out W (HBR.out.trans (hb.mono HBR.out.size))).mono ?_; rintro e w2 ⟨rfl, hb2⟩; exact ⟨_, rfl, hb2, rfl⟩)
            · exact trivial
            with_reducible refine Stab.steps_cons ?_ ?_ ?_
            · exact Stab.owes_bin rfl rfl rfl (fun W => run_addM _ _ _ _ W hw01) rfl
            · exact trivial
            with_reducible refine Stab.steps_cons ?_ ?_ ?_
            · exact Stab.owes_load rfl (fun v W hb hv => by subst hv; exact run_ldM (bx_keep HXR.out hb)) rfl
            · exact trivial
            with_reducible refine Stab.steps_cons ?_ ?_ ?_
            · (refine Stab.owes_call Tryz.func26 (by kernel_rfl) (by kernel_rfl) rfl (fun vs W hb hall => ?_) rfl; obtain ⟨_, _, rfl, rfl, _, _, rfl, rfl, rfl⟩ := hall; refine (HC2.out W (HBR.out.trans (hb.mono HBR.out.size))).mono ?_; rintro e w2 ⟨rfl, hb2⟩; exact ⟨_, rfl, hb2, rfl⟩)
            · exact trivial
            with_reducible refine Stab.steps_cons ?_ ?_ ?_
            · exact Stab.owes_bin rfl rfl rfl (fun W => run_addM _ _ _ _ W hw02) rfl
            · exact trivial
            with_reducible refine Stab.steps_cons ?_ ?_ ?_
            · exact Stab.owes_load rfl (fun v W hb hv => by subst hv; exact run_ldM (bx_keep HXR.out hb)) rfl
            · exact trivial
            with_reducible refine Stab.steps_cons ?_ ?_ ?_
            · (refine Stab.owes_call Tryz.func26 (by kernel_rfl) (by kernel_rfl) rfl (fun vs W hb hall => ?_) rfl; obtain ⟨_, _, rfl, rfl, _, _, rfl, rfl, rfl⟩ := hall; refine (HC3.out W (HBR.out.trans (hb.mono HBR.out.size))).mono ?_; rintro e w2 ⟨rfl, hb2⟩; exact ⟨_, rfl, hb2, rfl⟩)
            · exact trivial
            with_reducible refine Stab.steps_cons ?_ ?_ ?_
            · exact Stab.owes_bin rfl rfl rfl (fun W => run_addM _ _ _ _ W hw03) rfl
            · exact trivial
            with_reducible refine Stab.steps_cons ?_ ?_ ?_
            · exact Stab.owes_assign rfl rfl rfl
            · exact trivial
            exact Stab.steps_nil
          · intro W hb _
            simp only [Act.put, List.setIfInBounds_toArray, List.set_cons_succ, List.set_cons_zero]
            have HBW := Lib.hid (HBR.out.trans (hb.mono HBR.out.size))
            have HXW : Hid (W.heap[w.heap.size]? = some (.cells #[.slice At1 nt ct, .slice Ai ni ci, .slice Af nf cf, .slice Aa na ca, .slice Am nm cm, .slice Ag ng cg, .slice Ax nx cx, .int .i64 st, .slice Ae ne ce, .slice Ac nc cc, .slice Ad nd cd] 34 (0, 0))) := Lib.hid (bx_keep HXR.out hb)
            clear hb
            go_wp2_with fail
            go_loopw [11, 12] (fun o' i' wr => ∃ i : Nat, i' = .int .i64 (i : Int) ∧ o' = .int .i64 ((oddN (m.imps.take i) : Nat) : Int) ∧ i ≤ ni ∧ Below W.heap.size W wr) (fun _ i' _ => ni - (intOf i').toNat)
            case atStart => exact ⟨0, by go_num, by rfl, by omega, Below.refl _ _⟩
            case round =>
              obtain ⟨i, rfl, rfl, hi3, hW3⟩ := hrel
              have HW3 := Lib.hid hW3
              clear hW3
              have HX4 : Hid (wr.heap[w.heap.size]? = some (.cells #[.slice At1 nt ct, .slice Ai ni ci, .slice Af nf cf, .slice Aa na ca, .slice Am nm cm, .slice Ag ng cg, .slice Ax nx cx, .int .i64 st, .slice Ae ne ce, .slice Ac nc cc, .slice Ad nd cd] 34 (0, 0))) := Lib.hid (bx_keep HXW.out HW3.out)
              have b1 := (Sec.cells_at HX4.out 1).1
              by_cases hl3 : i < ni
              · obtain ⟨p, hp⟩ : ∃ p, m.imps[i]? = some p := ⟨_, List.getElem?_eq_getElem (by rw [HNI.out]; exact hl3)⟩
                have HON := Lib.hid (oddN_take hp)
                have HOL : Hid (oddN (m.imps.take i) ≤ i) := Lib.hid (by have := oddN_le (m.imps.take i); rw [List.length_take] at this; omega)
                obtain ⟨gi, oi, rfl, hgi, hAi, hoki⟩ := (HRI.out.keep (HBW.out.trans (HW3.out.mono HBW.out.size))).at_ hp
                rw [show elI.s = 9 from rfl] at hAi
                have b2 := hAi 2 (.int .i64 p.kind) rfl
                have i1 : (0 : Int) ≤ (i : Int) := by omega
                have i2 : (i : Int) < (ni : Int) := by omega
                have hni3 := HSZ.out.1
                have hw1 : IntKind.i64.wrap ((i : Int) + 1) = (i : Int) + 1 := IntWalk.i64_in _ (by omega)
                obtain ⟨od, hod⟩ : ∃ k, oddN (m.imps.take i) = k := ⟨_, rfl⟩
                rw [hod] at HON HOL ⊢
                have hol := HOL.out
                have hw2 : IntKind.i64.wrap ((od : Int) + 1) = (od : Int) + 1 := IntWalk.i64_in _ (by omega)
                obtain ⟨kd, hkd⟩ : ∃ k, p.kind = k := ⟨_, rfl⟩
                rw [hkd] at HON b2
                clear hAi hgi hoki hp hod hkd hol hni3
                by_cases k0' : kd < 0
                · have t1 : decide (kd < 0) = true := decide_eq_true k0'
                  have HON2 : Hid (oddN (m.imps.take (i + 1)) = od + 1) := Lib.hid (by rw [HON.out, if_pos (.inl k0')])
                  clear k0'
                  go_wp2_with fail
                  go_roundw
                  case rel => exact ⟨i + 1, by go_num, by rw [HON2.out]; go_num, hl3, HW3.out⟩
                  case measure => simp [intOf]; omega
                · have t1 : decide (kd < 0) = false := decide_eq_false k0'
                  by_cases k3' : 3 < kd
                  · have t2 : decide (3 < kd) = true := decide_eq_true k3'
                    have HON2 : Hid (oddN (m.imps.take (i + 1)) = od + 1) := Lib.hid (by rw [HON.out, if_pos (.inr k3')])
                    clear k0' k3'
                    go_wp2_with fail
                    go_roundw
                    case rel => exact ⟨i + 1, by go_num, by rw [HON2.out]; go_num, hl3, HW3.out⟩
                    case measure => simp [intOf]; omega
                  · have t2 : decide (3 < kd) = false := decide_eq_false k3'
                    have HON2 : Hid (oddN (m.imps.take (i + 1)) = od) := Lib.hid (by rw [HON.out, if_neg (by omega)]; rfl)
                    clear k0' k3'
                    go_wp2_with fail
                    go_roundw
                    case rel => exact ⟨i + 1, by go_num, by rw [HON2.out], hl3, HW3.out⟩
                    case measure => simp [intOf]; omega
              · have hi4 : ni = i := by omega
                subst hi4
                have HOD2 : Hid (oddN (m.imps.take ni) = oddN m.imps) := Lib.hid (by rw [List.take_of_length_le (by rw [HNI.out]; exact Nat.le_refl _)])
                rw [HOD2.out]
                go_wp2_with fail
                have HX5 : Hid (wr.heap[w.heap.size]? = some (.cells #[.slice At1 nt ct, .slice Ai ni ci, .slice Af nf cf, .slice Aa na ca, .slice Am nm cm, .slice Ag ng cg, .slice Ax nx cx, .int .i64 st, .slice Ae ne ce, .slice Ac nc cc, .slice Ad nd cd] 34 (0, 0))) := HX4
                have HB5 : Hid (Below w.heap.size w wr) := Lib.hid (HBW.out.trans (HW3.out.mono HBW.out.size))
                have HFU : Hid (∀ W, Below w.heap.size w W → Calls Tryz.prog 24 #[(.agg #[.slice At1 nt ct, .slice Ai ni ci, .slice Af nf cf, .slice Aa na ca, .slice Am nm cm, .slice Ag ng cg, .slice Ax nx cx, .int .i64 st, .slice Ae ne ce, .slice Ac nc cc, .slice Ad nd cd])] W fun e w' => ∃ P c, e = .returned (.slice P k0 c) ∧ Below W.heap.size W w') := Lib.hid fun W hb => (pfuncs_any (HM.out.keep hb) HSH.out).mono fun e w' h => by
                  obtain ⟨⟨u, rfl, ho⟩, hb2⟩ := h
                  obtain ⟨P, c, rfl⟩ := Ins.OwnI.form ho
                  rw [HFC.out]
                  exact ⟨P, c, rfl, hb2⟩
                obtain ⟨od, hod⟩ : ∃ k, oddN m.imps = k := ⟨_, rfl⟩
                rw [hod] at HSUM HOD ⊢
                clear hod
                have hsum := HSUM.out
                have hole := HOD.out
                obtain ⟨z1, z2, z3, z4, z5⟩ := HSZ.out
                have hs0 : IntKind.i64.wrap ((ni : Int) - (od : Int)) = ((ni : Int) - (od : Int)) := IntWalk.i64_in _ (by omega)
                have hs1 : IntKind.i64.wrap (((ni : Int) - (od : Int)) + (nf : Int)) = (((ni : Int) - (od : Int)) + (nf : Int)) := IntWalk.i64_in _ (by omega)
                have hs2 : IntKind.i64.wrap ((((ni : Int) - (od : Int)) + (nf : Int)) + (na : Int)) = ((((ni : Int) - (od : Int)) + (nf : Int)) + (na : Int)) := IntWalk.i64_in _ (by omega)
                have hs3 : IntKind.i64.wrap (((((ni : Int) - (od : Int)) + (nf : Int)) + (na : Int)) + (nm : Int)) = (((((ni : Int) - (od : Int)) + (nf : Int)) + (na : Int)) + (nm : Int)) := IntWalk.i64_in _ (by omega)
                have hs4 : IntKind.i64.wrap ((((((ni : Int) - (od : Int)) + (nf : Int)) + (na : Int)) + (nm : Int)) + (ng : Int)) = ((((((ni : Int) - (od : Int)) + (nf : Int)) + (na : Int)) + (nm : Int)) + (ng : Int)) := IntWalk.i64_in _ (by omega)
                have heq : ((k0 : Int) + (k1 : Int) + (k2 : Int) + (k3 : Int)) = ((((((ni : Int) - (od : Int)) + (nf : Int)) + (na : Int)) + (nm : Int)) + (ng : Int)) := by omega
                clear hsum hole z1 z2 z3 z4 z5
                refine Stab.region 167 [.is (.bool true), .is (.bool true), .is (.int .i64 (n : Int)), .is (.slice A n c), .is (.int .i64 (n : Int)), .is (.bool true), .is (.bool true), .is (.bool true), .is (.agg #[.slice At1 nt ct, .slice Ai ni ci, .slice Af nf cf, .slice Aa na ca, .slice Am nm cm, .slice Ag ng cg, .slice Ax nx cx, .int .i64 st, .slice Ae ne ce, .slice Ac nc cc, .slice Ad nd cd]), .fits (fun v _ => ∃ P c, v = .slice P k0 c), .is (.int .i64 (k0 : Int)), .is (.agg #[.slice At1 nt ct, .slice Ai ni ci, .slice Af nf cf, .slice Aa na ca, .slice Am nm cm, .slice Ag ng cg, .slice Ax nx cx, .int .i64 st, .slice Ae ne ce, .slice Ac nc cc, .slice Ad nd cd]), .is (.int .i64 (k0 : Int)), .is (.bool true), .is (.bool true), .is (.bool true), .is (.int .i64 ((k0 : Int) + (k1 : Int) + (k2 : Int) + (k3 : Int))), .is (.pointer (some ⟨w.heap.size, 1, none⟩)), .is (.slice Ai ni ci), .is (.int .i64 (ni : Int)), .is (.int .i64 (od : Int)), .is (.int .i64 ((ni : Int) - (od : Int))), .is (.pointer (some ⟨w.heap.size, 2, none⟩)), .is (.slice Af nf cf), .is (.int .i64 (nf : Int)), .is (.int .i64 (((ni : Int) - (od : Int)) + (nf : Int))), .is (.pointer (some ⟨w.heap.size, 3, none⟩)), .is (.slice Aa na ca), .is (.int .i64 (na : Int)), .is (.int .i64 ((((ni : Int) - (od : Int)) + (nf : Int)) + (na : Int))), .is (.pointer (some ⟨w.heap.size, 4, none⟩)), .is (.slice Am nm cm), .is (.int .i64 (nm : Int)), .is (.int .i64 (((((ni : Int) - (od : Int)) + (nf : Int)) + (na : Int)) + (nm : Int))), .is (.pointer (some ⟨w.heap.size, 5, none⟩)), .is (.slice Ag ng cg), .is (.int .i64 (ng : Int)), .is (.int .i64 ((((((ni : Int) - (od : Int)) + (nf : Int)) + (na : Int)) + (nm : Int)) + (ng : Int))), .is (.bool true), .is (.bool true), .is (.bool true)] (by kernel_rfl) (by kernel_rfl) rfl rfl ?_ ?_
                · skip
                  with_reducible refine Stab.steps_cons ?_ ?_ ?_
                  · exact Stab.owes_move rfl rfl rfl
                  · exact trivial
                  with_reducible refine Stab.steps_cons ?_ ?_ ?_
                  · exact Stab.owes_move rfl rfl rfl
                  · exact trivial
                  with_reducible refine Stab.steps_cons ?_ ?_ ?_
                  · exact Stab.owes_move rfl rfl rfl
                  · exact trivial
                  with_reducible refine Stab.steps_cons ?_ ?_ ?_
                  · exact Stab.owes_move rfl rfl rfl
                  · exact trivial
                  with_reducible refine Stab.steps_cons ?_ ?_ ?_
                  · exact Stab.owes_length rfl rfl (fun W => run_lenB _ _ _ _ W) rfl
                  · exact trivial
                  with_reducible refine Stab.steps_cons ?_ ?_ ?_
                  · exact Stab.owes_bin rfl rfl rfl (fun W => run_eqlM _ _ _ _ W rfl) rfl
                  · exact trivial
                  with_reducible refine Stab.steps_cons ?_ ?_ ?_
                  · exact Stab.owes_pick (b := true) rfl rfl rfl rfl
                  · exact trivial
                  with_reducible refine Stab.steps_cons ?_ ?_ ?_
                  · exact Stab.owes_move rfl rfl rfl
                  · exact trivial
                  with_reducible refine Stab.steps_cons ?_ ?_ ?_
                  · exact Stab.owes_load rfl (fun v W hb hv => by subst hv; exact run_ldM (bx_keep HX5.out hb)) rfl
                  · exact trivial
                  with_reducible refine Stab.steps_cons ?_ ?_ ?_
                  · (refine Stab.owes_call Tryz.func24 (by kernel_rfl) (by kernel_rfl) rfl (fun vs W hb hall => ?_) rfl; obtain ⟨_, _, rfl, rfl, rfl⟩ := hall; refine (HFU.out W (HB5.out.trans (hb.mono HB5.out.size))).mono ?_; rintro e w2 ⟨P2, c2, rfl, hb2⟩; exact ⟨_, rfl, hb2, ⟨P2, c2, rfl⟩⟩)
                  · exact (fun v w w' h _ => h)
                  with_reducible refine Stab.steps_cons ?_ ?_ ?_
                  · exact owes_lenF rfl rfl (fun v w W h => by obtain ⟨P2, c2, rfl⟩ := h; exact run_lenM2 _ _ _ _ W) rfl
                  · exact trivial
                  with_reducible refine Stab.steps_cons ?_ ?_ ?_
                  · exact Stab.owes_load rfl (fun v W hb hv => by subst hv; exact run_ldM (bx_keep HX5.out hb)) rfl
                  · exact trivial
                  with_reducible refine Stab.steps_cons ?_ ?_ ?_
                  · (refine Stab.owes_call Tryz.func26 (by kernel_rfl) (by kernel_rfl) rfl (fun vs W hb hall => ?_) rfl; obtain ⟨_, _, rfl, rfl, _, _, rfl, rfl, rfl⟩ := hall; refine (HC0.out W (HB5.out.trans (hb.mono HB5.out.size))).mono ?_; rintro e w2 ⟨rfl, hb2⟩; exact ⟨_, rfl, hb2, rfl⟩)
                  · exact trivial
                  with_reducible refine Stab.steps_cons ?_ ?_ ?_
                  · exact Stab.owes_bin rfl rfl rfl (fun W => run_eqlM _ _ _ _ W rfl) rfl
                  · exact trivial
                  with_reducible refine Stab.steps_cons ?_ ?_ ?_
                  · exact Stab.owes_pick (b := true) rfl rfl rfl rfl
                  · exact trivial
                  with_reducible refine Stab.steps_cons ?_ ?_ ?_
                  · exact Stab.owes_move rfl rfl rfl
                  · exact trivial
                  with_reducible refine Stab.steps_cons ?_ ?_ ?_
                  · exact Stab.owes_move rfl rfl rfl
                  · exact trivial
                  with_reducible refine Stab.steps_cons ?_ ?_ ?_
                  · exact Stab.owes_fieldAt rfl rfl (fun W => run_fM1 _ W) rfl
                  · exact trivial
                  with_reducible refine Stab.steps_cons ?_ ?_ ?_
                  · exact Stab.owes_load rfl (fun v W hb hv => by subst hv; exact run_ldS1 _ _ _ _ _ W (Sec.cells_at (bx_keep HX5.out hb) 1).1) rfl
                  · exact trivial
                  with_reducible refine Stab.steps_cons ?_ ?_ ?_
                  · exact Stab.owes_length rfl rfl (fun W => run_lenM1 _ _ _ _ W) rfl
                  · exact trivial
                  with_reducible refine Stab.steps_cons ?_ ?_ ?_
                  · exact Stab.owes_move rfl rfl rfl
                  · exact trivial
                  with_reducible refine Stab.steps_cons ?_ ?_ ?_
                  · exact Stab.owes_bin rfl rfl rfl (fun W => run_subM _ _ _ _ W hs0) rfl
                  · exact trivial
                  with_reducible refine Stab.steps_cons ?_ ?_ ?_
                  · exact Stab.owes_fieldAt rfl rfl (fun W => run_fM2 _ W) rfl
                  · exact trivial
                  with_reducible refine Stab.steps_cons ?_ ?_ ?_
                  · exact Stab.owes_load rfl (fun v W hb hv => by subst hv; exact run_ldS2 _ _ _ _ _ W (Sec.cells_at (bx_keep HX5.out hb) 2).1) rfl
                  · exact trivial
                  with_reducible refine Stab.steps_cons ?_ ?_ ?_
                  · exact Stab.owes_length rfl rfl (fun W => run_lenM2 _ _ _ _ W) rfl
                  · exact trivial
                  with_reducible refine Stab.steps_cons ?_ ?_ ?_
                  · exact Stab.owes_bin rfl rfl rfl (fun W => run_addM _ _ _ _ W hs1) rfl
                  · exact trivial
                  with_reducible refine Stab.steps_cons ?_ ?_ ?_
                  · exact Stab.owes_fieldAt rfl rfl (fun W => run_fM3 _ W) rfl
                  · exact trivial
                  with_reducible refine Stab.steps_cons ?_ ?_ ?_
                  · exact Stab.owes_load rfl (fun v W hb hv => by subst hv; exact run_ldS3 _ _ _ _ _ W (Sec.cells_at (bx_keep HX5.out hb) 3).1) rfl
                  · exact trivial
                  with_reducible refine Stab.steps_cons ?_ ?_ ?_
                  · exact Stab.owes_length rfl rfl (fun W => run_lenM3 _ _ _ _ W) rfl
                  · exact trivial
                  with_reducible refine Stab.steps_cons ?_ ?_ ?_
                  · exact Stab.owes_bin rfl rfl rfl (fun W => run_addM _ _ _ _ W hs2) rfl
                  · exact trivial
                  with_reducible refine Stab.steps_cons ?_ ?_ ?_
                  · exact Stab.owes_fieldAt rfl rfl (fun W => run_fM4 _ W) rfl
                  · exact trivial
                  with_reducible refine Stab.steps_cons ?_ ?_ ?_
                  · exact Stab.owes_load rfl (fun v W hb hv => by subst hv; exact run_ldS3 _ _ _ _ _ W (Sec.cells_at (bx_keep HX5.out hb) 4).1) rfl
                  · exact trivial
                  with_reducible refine Stab.steps_cons ?_ ?_ ?_
                  · exact Stab.owes_length rfl rfl (fun W => run_lenM3 _ _ _ _ W) rfl
                  · exact trivial
                  with_reducible refine Stab.steps_cons ?_ ?_ ?_
                  · exact Stab.owes_bin rfl rfl rfl (fun W => run_addM _ _ _ _ W hs3) rfl
                  · exact trivial
                  with_reducible refine Stab.steps_cons ?_ ?_ ?_
                  · exact Stab.owes_fieldAt rfl rfl (fun W => run_fM5 _ W) rfl
                  · exact trivial
                  with_reducible refine Stab.steps_cons ?_ ?_ ?_
                  · exact Stab.owes_load rfl (fun v W hb hv => by subst hv; exact run_ldS5 _ _ _ _ _ W (Sec.cells_at (bx_keep HX5.out hb) 5).1) rfl
                  · exact trivial
                  with_reducible refine Stab.steps_cons ?_ ?_ ?_
                  · exact Stab.owes_length rfl rfl (fun W => run_lenM5 _ _ _ _ W) rfl
                  · exact trivial
                  with_reducible refine Stab.steps_cons ?_ ?_ ?_
                  · exact Stab.owes_bin rfl rfl rfl (fun W => run_addM _ _ _ _ W hs4) rfl
                  · exact trivial
                  with_reducible refine Stab.steps_cons ?_ ?_ ?_
                  · exact Stab.owes_bin rfl rfl rfl (fun W => run_eqlM _ _ _ _ W heq) rfl
                  · exact trivial
                  with_reducible refine Stab.steps_cons ?_ ?_ ?_
                  · exact Stab.owes_pick (b := true) rfl rfl rfl rfl
                  · exact trivial
                  with_reducible refine Stab.steps_cons ?_ ?_ ?_
                  · exact Stab.owes_assign rfl rfl rfl
                  · exact trivial
                  exact Stab.steps_nil
                · intro v136 W5 hb5 hI
                  obtain ⟨_, P2, c2, rfl⟩ := hI
                  simp only [Act.put, List.setIfInBounds_toArray, List.set_cons_succ, List.set_cons_zero]
                  have HB6 := Lib.hid (HB5.out.trans (hb5.mono HB5.out.size))
                  clear hb5
                  go_wp2_with fail
                  exact bodyPost_ret (v := .bool true) (by simp [results, Tryz.results8, go_sem]) rfl ⟨rfl, HB6.out⟩
end Go.Proofs.YtffegkjlgeblbaaGreatDoor.Mdl
