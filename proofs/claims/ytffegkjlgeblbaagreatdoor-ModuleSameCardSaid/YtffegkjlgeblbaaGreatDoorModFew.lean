/- ModFew. -/
import Derived.Test.YtffegkjlgeblbaaGreatDoorModFewC
/- Few parts, and short ones, by the document: walked. -/
namespace Go.Proofs.YtffegkjlgeblbaaGreatDoor.Mdl
open Go.RowKit Ints Typ Ins
set_option maxRecDepth 100000
set_option maxHeartbeats 4000000
set_option linter.unusedVariables false
theorem few_short {v : Value} {m : ModT} {w : World} (h : ModAt w v m) (hS : m.types.length ≤ 70 ∧ m.imps.length ≤ 70 ∧ m.funcs.length ≤ 130 ∧ m.tabs.length ≤ 40 ∧ m.mems.length ≤ 40 ∧ m.globs.length ≤ 70 ∧ m.exps.length ≤ 70 ∧ m.elems.length ≤ 40 ∧ m.codes.length ≤ 30 ∧ m.datas.length ≤ 40) :
    Calls Tryz.prog 15 #[v] w (FewTold (FewM m) w) := by
  have HS := Lib.hid hS
  have HC := Lib.hid fun W (hb : Below w.heap.size w W) => codes_any (h.keep hb)
  clear hS
  obtain ⟨vt, vi, vf, va, vm, vg, vx, ve, vc, vd, rfl, r1, r2, r3, r4, r5, r6, r7, r8, r9, r10, r11⟩ := h
  obtain ⟨At1, ct, rfl⟩ := row_len r1
  obtain ⟨Ai, ci, rfl⟩ := row_len r2
  obtain ⟨Af, cf, rfl, _⟩ := id r3
  obtain ⟨Aa, ca, rfl⟩ := row_len r4
  obtain ⟨Am, cm, rfl⟩ := row_len r5
  obtain ⟨Ag, cg, rfl⟩ := row_len r6
  obtain ⟨Ax, cx, rfl⟩ := row_len r7
  obtain ⟨Ae, ce, rfl⟩ := row_len r9
  obtain ⟨Ac, cc, rfl⟩ := row_len r10
  obtain ⟨Ad, cd, rfl⟩ := row_len r11
  obtain ⟨nt, hnt⟩ : ∃ n, m.types.length = n := ⟨_, rfl⟩
  obtain ⟨ni, hni⟩ : ∃ n, m.imps.length = n := ⟨_, rfl⟩
  obtain ⟨nf, hnf⟩ : ∃ n, m.funcs.length = n := ⟨_, rfl⟩
  obtain ⟨na, hna⟩ : ∃ n, m.tabs.length = n := ⟨_, rfl⟩
  obtain ⟨nm, hnm⟩ : ∃ n, m.mems.length = n := ⟨_, rfl⟩
  obtain ⟨ng, hng⟩ : ∃ n, m.globs.length = n := ⟨_, rfl⟩
  obtain ⟨nx, hnx⟩ : ∃ n, m.exps.length = n := ⟨_, rfl⟩
  obtain ⟨ne, hne⟩ : ∃ n, m.elems.length = n := ⟨_, rfl⟩
  obtain ⟨nc, hnc⟩ : ∃ n, m.codes.length = n := ⟨_, rfl⟩
  obtain ⟨nd, hnd⟩ : ∃ n, m.datas.length = n := ⟨_, rfl⟩
  rw [hnt] at r1 HC ⊢
  rw [hni] at r2 HC ⊢
  rw [hnf] at r3 HC ⊢
  rw [hna] at r4 HC ⊢
  rw [hnm] at r5 HC ⊢
  rw [hng] at r6 HC ⊢
  rw [hnx] at r7 HC ⊢
  rw [hne] at r9 HC ⊢
  rw [hnc] at r10 HC ⊢
  rw [hnd] at r11 HC ⊢
  obtain ⟨st, hst⟩ : ∃ s, m.start = s := ⟨_, rfl⟩
  rw [hst] at HC ⊢
  have HNnt := Lib.hid hnt
  have HRnt := Lib.hid r1
  have HBnt : Hid (nt ≤ 9223372036854775807) := Lib.hid (by have := r1.form; obtain ⟨A9, c9, e9, l9, m9⟩ := this; injection e9 with _ e1 e2; omega)
  have HNni := Lib.hid hni
  have HRni := Lib.hid r2
  have HBni : Hid (ni ≤ 9223372036854775807) := Lib.hid (by have := r2.form; obtain ⟨A9, c9, e9, l9, m9⟩ := this; injection e9 with _ e1 e2; omega)
  have HNnf := Lib.hid hnf
  have HNna := Lib.hid hna
  have HNnm := Lib.hid hnm
  have HNng := Lib.hid hng
  have HNnx := Lib.hid hnx
  have HRnx := Lib.hid r7
  have HBnx : Hid (nx ≤ 9223372036854775807) := Lib.hid (by have := r7.form; obtain ⟨A9, c9, e9, l9, m9⟩ := this; injection e9 with _ e1 e2; omega)
  have HNne := Lib.hid hne
  have HNnc := Lib.hid hnc
  have HNnd := Lib.hid hnd
  have HW0 := Lib.hid ((Below.refl w.heap.size w).alloc (Nat.le_refl _) (.cells #[.slice At1 nt ct, .slice Ai ni ci, .slice Af nf cf, .slice Aa na ca, .slice Am nm cm, .slice Ag ng cg, .slice Ax nx cx, .int .i64 st, .slice Ae ne ce, .slice Ac nc cc, .slice Ad nd cd] 34))
  clear r1 r2 r3 r4 r5 r6 r7 r8 r9 r10 r11 hnt hni hnf hna hnm hng hnx hne hnc hnd hst
  have tnt : decide ((70 : Int) < (nt : Int)) = false := decide_eq_false (by have := HS.out; rw [HNnt.out, HNni.out, HNnf.out, HNna.out, HNnm.out, HNng.out, HNnx.out, HNne.out, HNnc.out, HNnd.out] at this; omega)
  have tni : decide ((70 : Int) < (ni : Int)) = false := decide_eq_false (by have := HS.out; rw [HNnt.out, HNni.out, HNnf.out, HNna.out, HNnm.out, HNng.out, HNnx.out, HNne.out, HNnc.out, HNnd.out] at this; omega)
  have tnf : decide ((130 : Int) < (nf : Int)) = false := decide_eq_false (by have := HS.out; rw [HNnt.out, HNni.out, HNnf.out, HNna.out, HNnm.out, HNng.out, HNnx.out, HNne.out, HNnc.out, HNnd.out] at this; omega)
  have tna : decide ((40 : Int) < (na : Int)) = false := decide_eq_false (by have := HS.out; rw [HNnt.out, HNni.out, HNnf.out, HNna.out, HNnm.out, HNng.out, HNnx.out, HNne.out, HNnc.out, HNnd.out] at this; omega)
  have tnm : decide ((40 : Int) < (nm : Int)) = false := decide_eq_false (by have := HS.out; rw [HNnt.out, HNni.out, HNnf.out, HNna.out, HNnm.out, HNng.out, HNnx.out, HNne.out, HNnc.out, HNnd.out] at this; omega)
  have tng : decide ((70 : Int) < (ng : Int)) = false := decide_eq_false (by have := HS.out; rw [HNnt.out, HNni.out, HNnf.out, HNna.out, HNnm.out, HNng.out, HNnx.out, HNne.out, HNnc.out, HNnd.out] at this; omega)
  have tnx : decide ((70 : Int) < (nx : Int)) = false := decide_eq_false (by have := HS.out; rw [HNnt.out, HNni.out, HNnf.out, HNna.out, HNnm.out, HNng.out, HNnx.out, HNne.out, HNnc.out, HNnd.out] at this; omega)
  have tne : decide ((40 : Int) < (ne : Int)) = false := decide_eq_false (by have := HS.out; rw [HNnt.out, HNni.out, HNnf.out, HNna.out, HNnm.out, HNng.out, HNnx.out, HNne.out, HNnc.out, HNnd.out] at this; omega)
  have tnc : decide ((30 : Int) < (nc : Int)) = false := decide_eq_false (by have := HS.out; rw [HNnt.out, HNni.out, HNnf.out, HNna.out, HNnm.out, HNng.out, HNnx.out, HNne.out, HNnc.out, HNnd.out] at this; omega)
  have tnd : decide ((40 : Int) < (nd : Int)) = false := decide_eq_false (by have := HS.out; rw [HNnt.out, HNni.out, HNnf.out, HNna.out, HNnm.out, HNng.out, HNnx.out, HNne.out, HNnc.out, HNnd.out] at this; omega)
  go_enter Tryz.func15, Tryz.ntmps15
  go_wp2_with fail
  clear tnt tni tnf tna tnm tng tnx tne tnc tnd
  go_loop [3] (fun i' => ∃ i : Nat, i' = .int .i64 (i : Int) ∧ i ≤ nt ∧ ∀ q, q < i → ∀ p, m.types[q]? = some p → p.1.1.length ≤ 100 ∧ p.2.1.length ≤ 100) (fun i' => nt - (intOf i').toNat)
  case atStart => exact ⟨0, by go_num, by omega, fun q hq => absurd hq (by omega)⟩
  case round =>
    obtain ⟨i, rfl, hi, hall⟩ := hrel
    have HALL := Lib.hid hall
    clear hall
    by_cases hlt : i < nt
    · obtain ⟨p, hp⟩ : ∃ p, m.types[i]? = some p := ⟨_, List.getElem?_eq_getElem (by rw [HNnt.out]; exact hlt)⟩
      obtain ⟨g, off, rfl, hg, hA, hok⟩ := (HRnt.out.keep HW0.out).at_ hp
      have HP := Lib.hid hp
      rw [show (elF.s) = 2 from rfl] at hA
      have q0 := hA 0 p.1.2 rfl
      rw [Nat.add_zero] at q0
      obtain ⟨P0, d0, hv0, _⟩ := id (hok.1.1)
      obtain ⟨n0, hn0⟩ : ∃ k, p.1.1.length = k := ⟨_, rfl⟩
      have HL0 := Lib.hid hn0
      rw [hn0] at hv0
      rw [hv0] at q0
      clear hv0 hn0
      have q1 := hA 1 p.2.2 rfl
      obtain ⟨P1, d1, hv1, _⟩ := id (hok.2.1)
      obtain ⟨n1, hn1⟩ : ∃ k, p.2.1.length = k := ⟨_, rfl⟩
      have HL1 := Lib.hid hn1
      rw [hn1] at hv1
      rw [hv1] at q1
      clear hv1 hn1
      have hHB := HBnt.out
      have i1 : (0 : Int) ≤ (i : Int) := by omega
      have i2 : (i : Int) < (nt : Int) := by omega
      have hw1 : IntKind.i64.wrap ((i : Int) + 1) = (i : Int) + 1 := IntWalk.i64_in _ (by omega)
      clear hA hp hHB
      by_cases hb0 : n0 ≤ 100
      · have HT0 := Lib.hid hb0
        have t0 : decide ((100 : Int) < (n0 : Int)) = false := decide_eq_false (by omega)
        by_cases hb1 : n1 ≤ 100
        · have HT1 := Lib.hid hb1
          have t1 : decide ((100 : Int) < (n1 : Int)) = false := decide_eq_false (by omega)
          have HNX : Hid (∀ q, q < i + 1 → ∀ p, m.types[q]? = some p → p.1.1.length ≤ 100 ∧ p.2.1.length ≤ 100) := fun q hq p' hp' => by
            by_cases e : q = i
            · subst e
              obtain rfl := Option.some.inj (HP.out.symm.trans hp')
              exact ⟨HX0 HL0.out HT0.out, HX0 HL1.out HT1.out⟩
            · exact HALL.out q (by omega) p' hp'
          clear hb0 hb1
          go_wp2_with fail
          go_round
          case rel => exact ⟨i + 1, by go_num, hlt, HNX.out⟩
          case measure => simp [intOf]; omega
        · have t1 : decide ((100 : Int) < (n1 : Int)) = true := decide_eq_true (by omega)
          clear hb0 hb1
          go_wp2_with fail
          exact bodyPost_ret (v := .bool false) (by simp [results, Tryz.results15, go_sem]) rfl (fewno HW0.out)
      · have t0 : decide ((100 : Int) < (n0 : Int)) = true := decide_eq_true (by omega)
        clear hb0
        go_wp2_with fail
        exact bodyPost_ret (v := .bool false) (by simp [results, Tryz.results15, go_sem]) rfl (fewno HW0.out)
    · obtain rfl : i = nt := by omega
      have HYnt : Hid (∀ p ∈ m.types, p.1.1.length ≤ 100 ∧ p.2.1.length ≤ 100) := fun p hp => by
        obtain ⟨q, hq⟩ := List.getElem?_of_mem hp
        exact HALL.out q (by have := (List.getElem?_eq_some_iff.1 hq).1; rwa [HNnt.out] at this) p hq
      clear hlt HALL
      go_wp2_with fail
      go_loop [4] (fun i' => ∃ i : Nat, i' = .int .i64 (i : Int) ∧ i ≤ ni ∧ ∀ q, q < i → ∀ p, m.imps[q]? = some p → p.md.size ≤ 100 ∧ p.nm.size ≤ 100) (fun i' => ni - (intOf i').toNat)
      case atStart => exact ⟨0, by go_num, by omega, fun q hq => absurd hq (by omega)⟩
      case round =>
        obtain ⟨i, rfl, hi, hall⟩ := hrel
        have HALL := Lib.hid hall
        clear hall
        by_cases hlt : i < ni
        · obtain ⟨p, hp⟩ : ∃ p, m.imps[i]? = some p := ⟨_, List.getElem?_eq_getElem (by rw [HNni.out]; exact hlt)⟩
          obtain ⟨g, off, rfl, hg, hA, hok⟩ := (HRni.out.keep HW0.out).at_ hp
          have HP := Lib.hid hp
          rw [show (elI.s) = 9 from rfl] at hA
          have q0 := hA 0 (.string p.md) rfl
          rw [Nat.add_zero] at q0
          obtain ⟨s0, hs0⟩ : ∃ s, p.md = s := ⟨_, rfl⟩
          have HL0 := Lib.hid hs0
          rw [hs0] at q0
          clear hs0
          have q1 := hA 1 (.string p.nm) rfl
          obtain ⟨s1, hs1⟩ : ∃ s, p.nm = s := ⟨_, rfl⟩
          have HL1 := Lib.hid hs1
          rw [hs1] at q1
          clear hs1
          have hHB := HBni.out
          have i1 : (0 : Int) ≤ (i : Int) := by omega
          have i2 : (i : Int) < (ni : Int) := by omega
          have hw1 : IntKind.i64.wrap ((i : Int) + 1) = (i : Int) + 1 := IntWalk.i64_in _ (by omega)
          clear hA hp hHB
          by_cases hb0 : s0.size ≤ 100
          · have HT0 := Lib.hid hb0
            have t0 : decide ((100 : Int) < (s0.size : Int)) = false := decide_eq_false (by omega)
            by_cases hb1 : s1.size ≤ 100
            · have HT1 := Lib.hid hb1
              have t1 : decide ((100 : Int) < (s1.size : Int)) = false := decide_eq_false (by omega)
              have HNX : Hid (∀ q, q < i + 1 → ∀ p, m.imps[q]? = some p → p.md.size ≤ 100 ∧ p.nm.size ≤ 100) := fun q hq p' hp' => by
                by_cases e : q = i
                · subst e
                  obtain rfl := Option.some.inj (HP.out.symm.trans hp')
                  exact ⟨HX1 HL0.out HT0.out, HX1 HL1.out HT1.out⟩
                · exact HALL.out q (by omega) p' hp'
              clear hb0 hb1
              go_wp2_with fail
              go_round
              case rel => exact ⟨i + 1, by go_num, hlt, HNX.out⟩
              case measure => simp [intOf]; omega
            · have t1 : decide ((100 : Int) < (s1.size : Int)) = true := decide_eq_true (by omega)
              clear hb0 hb1
              go_wp2_with fail
              exact bodyPost_ret (v := .bool false) (by simp [results, Tryz.results15, go_sem]) rfl (fewno HW0.out)
          · have t0 : decide ((100 : Int) < (s0.size : Int)) = true := decide_eq_true (by omega)
            clear hb0
            go_wp2_with fail
            exact bodyPost_ret (v := .bool false) (by simp [results, Tryz.results15, go_sem]) rfl (fewno HW0.out)
        · obtain rfl : i = ni := by omega
          have HYni : Hid (∀ p ∈ m.imps, p.md.size ≤ 100 ∧ p.nm.size ≤ 100) := fun p hp => by
            obtain ⟨q, hq⟩ := List.getElem?_of_mem hp
            exact HALL.out q (by have := (List.getElem?_eq_some_iff.1 hq).1; rwa [HNni.out] at this) p hq
          clear hlt HALL
          go_wp2_with fail
          go_loop [5] (fun i' => ∃ i : Nat, i' = .int .i64 (i : Int) ∧ i ≤ nx ∧ ∀ q, q < i → ∀ p, m.exps[q]? = some p → p.1.size ≤ 100) (fun i' => nx - (intOf i').toNat)
          case atStart => exact ⟨0, by go_num, by omega, fun q hq => absurd hq (by omega)⟩
          case round =>
            obtain ⟨i, rfl, hi, hall⟩ := hrel
            have HALL := Lib.hid hall
            clear hall
            by_cases hlt : i < nx
            · obtain ⟨p, hp⟩ : ∃ p, m.exps[i]? = some p := ⟨_, List.getElem?_eq_getElem (by rw [HNnx.out]; exact hlt)⟩
              obtain ⟨g, off, rfl, hg, hA, hok⟩ := (HRnx.out.keep HW0.out).at_ hp
              have HP := Lib.hid hp
              rw [show (elX.s) = 3 from rfl] at hA
              have q0 := hA 0 (.string p.1) rfl
              rw [Nat.add_zero] at q0
              obtain ⟨s0, hs0⟩ : ∃ s, p.1 = s := ⟨_, rfl⟩
              have HL0 := Lib.hid hs0
              rw [hs0] at q0
              clear hs0
              have hHB := HBnx.out
              have i1 : (0 : Int) ≤ (i : Int) := by omega
              have i2 : (i : Int) < (nx : Int) := by omega
              have hw1 : IntKind.i64.wrap ((i : Int) + 1) = (i : Int) + 1 := IntWalk.i64_in _ (by omega)
              clear hA hp hHB
              by_cases hb0 : s0.size ≤ 100
              · have HT0 := Lib.hid hb0
                have t0 : decide ((100 : Int) < (s0.size : Int)) = false := decide_eq_false (by omega)
                have HNX : Hid (∀ q, q < i + 1 → ∀ p, m.exps[q]? = some p → p.1.size ≤ 100) := fun q hq p' hp' => by
                  by_cases e : q = i
                  · subst e
                    obtain rfl := Option.some.inj (HP.out.symm.trans hp')
                    exact HX1 HL0.out HT0.out
                  · exact HALL.out q (by omega) p' hp'
                clear hb0
                go_wp2_with fail
                go_round
                case rel => exact ⟨i + 1, by go_num, hlt, HNX.out⟩
                case measure => simp [intOf]; omega
              · have t0 : decide ((100 : Int) < (s0.size : Int)) = true := decide_eq_true (by omega)
                clear hb0
                go_wp2_with fail
                exact bodyPost_ret (v := .bool false) (by simp [results, Tryz.results15, go_sem]) rfl (fewno HW0.out)
            · obtain rfl : i = nx := by omega
              have HYnx : Hid (∀ p ∈ m.exps, p.1.size ≤ 100) := fun p hp => by
                obtain ⟨q, hq⟩ := List.getElem?_of_mem hp
                exact HALL.out q (by have := (List.getElem?_eq_some_iff.1 hq).1; rwa [HNnx.out] at this) p hq
              clear hlt HALL
              go_wp2_with fail
              refine (HC.out _ HW0.out).mono ?_
              rintro en w1 ⟨b, rfl, hb, hW1⟩
              have HYES : Hid (b = true → FewM m) := fun e => ⟨HS.out, HYnt.out, HYni.out, HYnx.out, hb e⟩
              have HW1 := Lib.hid (HW0.out.trans (hW1.mono HW0.out.size))
              clear hb hW1
              go_wp2_with fail
              exact bodyPost_ret (v := .bool b) (by simp [results, Tryz.results15, go_sem]) rfl ⟨_, rfl, HYES.out, HW1.out⟩
theorem few_no0 {v : Value} {m : ModT} {w : World} (h : ModAt w v m)  (hx : 70 < m.types.length) : Calls Tryz.prog 15 #[v] w (FewTold (FewM m) w) := by
  obtain ⟨vt, vi, vf, va, vm, vg, vx, ve, vc, vd, rfl, r1, r2, r3, r4, r5, r6, r7, r8, r9, r10, r11⟩ := h
  obtain ⟨At1, ct, rfl⟩ := row_len r1
  obtain ⟨Ai, ci, rfl⟩ := row_len r2
  obtain ⟨Af, cf, rfl, _⟩ := id r3
  obtain ⟨Aa, ca, rfl⟩ := row_len r4
  obtain ⟨Am, cm, rfl⟩ := row_len r5
  obtain ⟨Ag, cg, rfl⟩ := row_len r6
  obtain ⟨Ax, cx, rfl⟩ := row_len r7
  obtain ⟨Ae, ce, rfl⟩ := row_len r9
  obtain ⟨Ac, cc, rfl⟩ := row_len r10
  obtain ⟨Ad, cd, rfl⟩ := row_len r11
  obtain ⟨nt, hnt⟩ : ∃ n, m.types.length = n := ⟨_, rfl⟩
  obtain ⟨ni, hni⟩ : ∃ n, m.imps.length = n := ⟨_, rfl⟩
  obtain ⟨nf, hnf⟩ : ∃ n, m.funcs.length = n := ⟨_, rfl⟩
  obtain ⟨na, hna⟩ : ∃ n, m.tabs.length = n := ⟨_, rfl⟩
  obtain ⟨nm, hnm⟩ : ∃ n, m.mems.length = n := ⟨_, rfl⟩
  obtain ⟨ng, hng⟩ : ∃ n, m.globs.length = n := ⟨_, rfl⟩
  obtain ⟨nx, hnx⟩ : ∃ n, m.exps.length = n := ⟨_, rfl⟩
  obtain ⟨ne, hne⟩ : ∃ n, m.elems.length = n := ⟨_, rfl⟩
  obtain ⟨nc, hnc⟩ : ∃ n, m.codes.length = n := ⟨_, rfl⟩
  obtain ⟨nd, hnd⟩ : ∃ n, m.datas.length = n := ⟨_, rfl⟩
  rw [hnt] at r1  ⊢
  rw [hni] at r2  ⊢
  rw [hnf] at r3  ⊢
  rw [hna] at r4  ⊢
  rw [hnm] at r5  ⊢
  rw [hng] at r6  ⊢
  rw [hnx] at r7  ⊢
  rw [hne] at r9  ⊢
  rw [hnc] at r10  ⊢
  rw [hnd] at r11  ⊢
  obtain ⟨st, hst⟩ : ∃ s, m.start = s := ⟨_, rfl⟩
  rw [hst]
  have HNnt := Lib.hid hnt
  have HNni := Lib.hid hni
  have HNnf := Lib.hid hnf
  have HNna := Lib.hid hna
  have HNnm := Lib.hid hnm
  have HNng := Lib.hid hng
  have HNnx := Lib.hid hnx
  have HNne := Lib.hid hne
  have HNnc := Lib.hid hnc
  have HNnd := Lib.hid hnd
  have HW0 := Lib.hid ((Below.refl w.heap.size w).alloc (Nat.le_refl _) (.cells #[.slice At1 nt ct, .slice Ai ni ci, .slice Af nf cf, .slice Aa na ca, .slice Am nm cm, .slice Ag ng cg, .slice Ax nx cx, .int .i64 st, .slice Ae ne ce, .slice Ac nc cc, .slice Ad nd cd] 34))
  clear r1 r2 r3 r4 r5 r6 r7 r8 r9 r10 r11 hnt hni hnf hna hnm hng hnx hne hnc hnd hst
  have tnt : decide ((70 : Int) < (nt : Int)) = true := decide_eq_true (by rw [HNnt.out] at hx; omega)
  clear hx
  go_enter Tryz.func15, Tryz.ntmps15
  go_wp2_with fail
  exact bodyPost_ret (v := .bool false) (by simp [results, Tryz.results15, go_sem]) rfl (fewno HW0.out)
theorem few_no1 {v : Value} {m : ModT} {w : World} (h : ModAt w v m) (h0 : m.types.length ≤ 70) (hx : 70 < m.imps.length) : Calls Tryz.prog 15 #[v] w (FewTold (FewM m) w) := by
  obtain ⟨vt, vi, vf, va, vm, vg, vx, ve, vc, vd, rfl, r1, r2, r3, r4, r5, r6, r7, r8, r9, r10, r11⟩ := h
  obtain ⟨At1, ct, rfl⟩ := row_len r1
  obtain ⟨Ai, ci, rfl⟩ := row_len r2
  obtain ⟨Af, cf, rfl, _⟩ := id r3
  obtain ⟨Aa, ca, rfl⟩ := row_len r4
  obtain ⟨Am, cm, rfl⟩ := row_len r5
  obtain ⟨Ag, cg, rfl⟩ := row_len r6
  obtain ⟨Ax, cx, rfl⟩ := row_len r7
  obtain ⟨Ae, ce, rfl⟩ := row_len r9
  obtain ⟨Ac, cc, rfl⟩ := row_len r10
  obtain ⟨Ad, cd, rfl⟩ := row_len r11
  obtain ⟨nt, hnt⟩ : ∃ n, m.types.length = n := ⟨_, rfl⟩
  obtain ⟨ni, hni⟩ : ∃ n, m.imps.length = n := ⟨_, rfl⟩
  obtain ⟨nf, hnf⟩ : ∃ n, m.funcs.length = n := ⟨_, rfl⟩
  obtain ⟨na, hna⟩ : ∃ n, m.tabs.length = n := ⟨_, rfl⟩
  obtain ⟨nm, hnm⟩ : ∃ n, m.mems.length = n := ⟨_, rfl⟩
  obtain ⟨ng, hng⟩ : ∃ n, m.globs.length = n := ⟨_, rfl⟩
  obtain ⟨nx, hnx⟩ : ∃ n, m.exps.length = n := ⟨_, rfl⟩
  obtain ⟨ne, hne⟩ : ∃ n, m.elems.length = n := ⟨_, rfl⟩
  obtain ⟨nc, hnc⟩ : ∃ n, m.codes.length = n := ⟨_, rfl⟩
  obtain ⟨nd, hnd⟩ : ∃ n, m.datas.length = n := ⟨_, rfl⟩
  rw [hnt] at r1  ⊢
  rw [hni] at r2  ⊢
  rw [hnf] at r3  ⊢
  rw [hna] at r4  ⊢
  rw [hnm] at r5  ⊢
  rw [hng] at r6  ⊢
  rw [hnx] at r7  ⊢
  rw [hne] at r9  ⊢
  rw [hnc] at r10  ⊢
  rw [hnd] at r11  ⊢
  obtain ⟨st, hst⟩ : ∃ s, m.start = s := ⟨_, rfl⟩
  rw [hst]
  have HNnt := Lib.hid hnt
  have HNni := Lib.hid hni
  have HNnf := Lib.hid hnf
  have HNna := Lib.hid hna
  have HNnm := Lib.hid hnm
  have HNng := Lib.hid hng
  have HNnx := Lib.hid hnx
  have HNne := Lib.hid hne
  have HNnc := Lib.hid hnc
  have HNnd := Lib.hid hnd
  have HW0 := Lib.hid ((Below.refl w.heap.size w).alloc (Nat.le_refl _) (.cells #[.slice At1 nt ct, .slice Ai ni ci, .slice Af nf cf, .slice Aa na ca, .slice Am nm cm, .slice Ag ng cg, .slice Ax nx cx, .int .i64 st, .slice Ae ne ce, .slice Ac nc cc, .slice Ad nd cd] 34))
  clear r1 r2 r3 r4 r5 r6 r7 r8 r9 r10 r11 hnt hni hnf hna hnm hng hnx hne hnc hnd hst
  have tnt : decide ((70 : Int) < (nt : Int)) = false := decide_eq_false (by rw [HNnt.out] at h0; omega)
  clear h0
  have tni : decide ((70 : Int) < (ni : Int)) = true := decide_eq_true (by rw [HNni.out] at hx; omega)
  clear hx
  go_enter Tryz.func15, Tryz.ntmps15
  go_wp2_with fail
  exact bodyPost_ret (v := .bool false) (by simp [results, Tryz.results15, go_sem]) rfl (fewno HW0.out)
theorem few_no2 {v : Value} {m : ModT} {w : World} (h : ModAt w v m) (h0 : m.types.length ≤ 70) (h1 : m.imps.length ≤ 70) (hx : 130 < m.funcs.length) : Calls Tryz.prog 15 #[v] w (FewTold (FewM m) w) := by
  obtain ⟨vt, vi, vf, va, vm, vg, vx, ve, vc, vd, rfl, r1, r2, r3, r4, r5, r6, r7, r8, r9, r10, r11⟩ := h
  obtain ⟨At1, ct, rfl⟩ := row_len r1
  obtain ⟨Ai, ci, rfl⟩ := row_len r2
  obtain ⟨Af, cf, rfl, _⟩ := id r3
  obtain ⟨Aa, ca, rfl⟩ := row_len r4
  obtain ⟨Am, cm, rfl⟩ := row_len r5
  obtain ⟨Ag, cg, rfl⟩ := row_len r6
  obtain ⟨Ax, cx, rfl⟩ := row_len r7
  obtain ⟨Ae, ce, rfl⟩ := row_len r9
  obtain ⟨Ac, cc, rfl⟩ := row_len r10
  obtain ⟨Ad, cd, rfl⟩ := row_len r11
  obtain ⟨nt, hnt⟩ : ∃ n, m.types.length = n := ⟨_, rfl⟩
  obtain ⟨ni, hni⟩ : ∃ n, m.imps.length = n := ⟨_, rfl⟩
  obtain ⟨nf, hnf⟩ : ∃ n, m.funcs.length = n := ⟨_, rfl⟩
  obtain ⟨na, hna⟩ : ∃ n, m.tabs.length = n := ⟨_, rfl⟩
  obtain ⟨nm, hnm⟩ : ∃ n, m.mems.length = n := ⟨_, rfl⟩
  obtain ⟨ng, hng⟩ : ∃ n, m.globs.length = n := ⟨_, rfl⟩
  obtain ⟨nx, hnx⟩ : ∃ n, m.exps.length = n := ⟨_, rfl⟩
  obtain ⟨ne, hne⟩ : ∃ n, m.elems.length = n := ⟨_, rfl⟩
  obtain ⟨nc, hnc⟩ : ∃ n, m.codes.length = n := ⟨_, rfl⟩
  obtain ⟨nd, hnd⟩ : ∃ n, m.datas.length = n := ⟨_, rfl⟩
  rw [hnt] at r1  ⊢
  rw [hni] at r2  ⊢
  rw [hnf] at r3  ⊢
  rw [hna] at r4  ⊢
  rw [hnm] at r5  ⊢
  rw [hng] at r6  ⊢
  rw [hnx] at r7  ⊢
  rw [hne] at r9  ⊢
  rw [hnc] at r10  ⊢
  rw [hnd] at r11  ⊢
  obtain ⟨st, hst⟩ : ∃ s, m.start = s := ⟨_, rfl⟩
  rw [hst]
  have HNnt := Lib.hid hnt
  have HNni := Lib.hid hni
  have HNnf := Lib.hid hnf
  have HNna := Lib.hid hna
  have HNnm := Lib.hid hnm
  have HNng := Lib.hid hng
  have HNnx := Lib.hid hnx
  have HNne := Lib.hid hne
  have HNnc := Lib.hid hnc
  have HNnd := Lib.hid hnd
  have HW0 := Lib.hid ((Below.refl w.heap.size w).alloc (Nat.le_refl _) (.cells #[.slice At1 nt ct, .slice Ai ni ci, .slice Af nf cf, .slice Aa na ca, .slice Am nm cm, .slice Ag ng cg, .slice Ax nx cx, .int .i64 st, .slice Ae ne ce, .slice Ac nc cc, .slice Ad nd cd] 34))
  clear r1 r2 r3 r4 r5 r6 r7 r8 r9 r10 r11 hnt hni hnf hna hnm hng hnx hne hnc hnd hst
  have tnt : decide ((70 : Int) < (nt : Int)) = false := decide_eq_false (by rw [HNnt.out] at h0; omega)
  clear h0
  have tni : decide ((70 : Int) < (ni : Int)) = false := decide_eq_false (by rw [HNni.out] at h1; omega)
  clear h1
  have tnf : decide ((130 : Int) < (nf : Int)) = true := decide_eq_true (by rw [HNnf.out] at hx; omega)
  clear hx
  go_enter Tryz.func15, Tryz.ntmps15
  go_wp2_with fail
  exact bodyPost_ret (v := .bool false) (by simp [results, Tryz.results15, go_sem]) rfl (fewno HW0.out)
theorem few_no3 {v : Value} {m : ModT} {w : World} (h : ModAt w v m) (h0 : m.types.length ≤ 70) (h1 : m.imps.length ≤ 70) (h2 : m.funcs.length ≤ 130) (hx : 40 < m.tabs.length) : Calls Tryz.prog 15 #[v] w (FewTold (FewM m) w) := by
  obtain ⟨vt, vi, vf, va, vm, vg, vx, ve, vc, vd, rfl, r1, r2, r3, r4, r5, r6, r7, r8, r9, r10, r11⟩ := h
  obtain ⟨At1, ct, rfl⟩ := row_len r1
  obtain ⟨Ai, ci, rfl⟩ := row_len r2
  obtain ⟨Af, cf, rfl, _⟩ := id r3
  obtain ⟨Aa, ca, rfl⟩ := row_len r4
  obtain ⟨Am, cm, rfl⟩ := row_len r5
  obtain ⟨Ag, cg, rfl⟩ := row_len r6
  obtain ⟨Ax, cx, rfl⟩ := row_len r7
  obtain ⟨Ae, ce, rfl⟩ := row_len r9
  obtain ⟨Ac, cc, rfl⟩ := row_len r10
  obtain ⟨Ad, cd, rfl⟩ := row_len r11
  obtain ⟨nt, hnt⟩ : ∃ n, m.types.length = n := ⟨_, rfl⟩
  obtain ⟨ni, hni⟩ : ∃ n, m.imps.length = n := ⟨_, rfl⟩
  obtain ⟨nf, hnf⟩ : ∃ n, m.funcs.length = n := ⟨_, rfl⟩
  obtain ⟨na, hna⟩ : ∃ n, m.tabs.length = n := ⟨_, rfl⟩
  obtain ⟨nm, hnm⟩ : ∃ n, m.mems.length = n := ⟨_, rfl⟩
  obtain ⟨ng, hng⟩ : ∃ n, m.globs.length = n := ⟨_, rfl⟩
  obtain ⟨nx, hnx⟩ : ∃ n, m.exps.length = n := ⟨_, rfl⟩
  obtain ⟨ne, hne⟩ : ∃ n, m.elems.length = n := ⟨_, rfl⟩
  obtain ⟨nc, hnc⟩ : ∃ n, m.codes.length = n := ⟨_, rfl⟩
  obtain ⟨nd, hnd⟩ : ∃ n, m.datas.length = n := ⟨_, rfl⟩
  rw [hnt] at r1  ⊢
  rw [hni] at r2  ⊢
  rw [hnf] at r3  ⊢
  rw [hna] at r4  ⊢
  rw [hnm] at r5  ⊢
  rw [hng] at r6  ⊢
  rw [hnx] at r7  ⊢
  rw [hne] at r9  ⊢
  rw [hnc] at r10  ⊢
  rw [hnd] at r11  ⊢
  obtain ⟨st, hst⟩ : ∃ s, m.start = s := ⟨_, rfl⟩
  rw [hst]
  have HNnt := Lib.hid hnt
  have HNni := Lib.hid hni
  have HNnf := Lib.hid hnf
  have HNna := Lib.hid hna
  have HNnm := Lib.hid hnm
  have HNng := Lib.hid hng
  have HNnx := Lib.hid hnx
  have HNne := Lib.hid hne
  have HNnc := Lib.hid hnc
  have HNnd := Lib.hid hnd
  have HW0 := Lib.hid ((Below.refl w.heap.size w).alloc (Nat.le_refl _) (.cells #[.slice At1 nt ct, .slice Ai ni ci, .slice Af nf cf, .slice Aa na ca, .slice Am nm cm, .slice Ag ng cg, .slice Ax nx cx, .int .i64 st, .slice Ae ne ce, .slice Ac nc cc, .slice Ad nd cd] 34))
  clear r1 r2 r3 r4 r5 r6 r7 r8 r9 r10 r11 hnt hni hnf hna hnm hng hnx hne hnc hnd hst
  have tnt : decide ((70 : Int) < (nt : Int)) = false := decide_eq_false (by rw [HNnt.out] at h0; omega)
  clear h0
  have tni : decide ((70 : Int) < (ni : Int)) = false := decide_eq_false (by rw [HNni.out] at h1; omega)
  clear h1
  have tnf : decide ((130 : Int) < (nf : Int)) = false := decide_eq_false (by rw [HNnf.out] at h2; omega)
  clear h2
  have tna : decide ((40 : Int) < (na : Int)) = true := decide_eq_true (by rw [HNna.out] at hx; omega)
  clear hx
  go_enter Tryz.func15, Tryz.ntmps15
  go_wp2_with fail
  exact bodyPost_ret (v := .bool false) (by simp [results, Tryz.results15, go_sem]) rfl (fewno HW0.out)
theorem few_no4 {v : Value} {m : ModT} {w : World} (h : ModAt w v m) (h0 : m.types.length ≤ 70) (h1 : m.imps.length ≤ 70) (h2 : m.funcs.length ≤ 130) (h3 : m.tabs.length ≤ 40) (hx : 40 < m.mems.length) : Calls Tryz.prog 15 #[v] w (FewTold (FewM m) w) := by
  obtain ⟨vt, vi, vf, va, vm, vg, vx, ve, vc, vd, rfl, r1, r2, r3, r4, r5, r6, r7, r8, r9, r10, r11⟩ := h
  obtain ⟨At1, ct, rfl⟩ := row_len r1
  obtain ⟨Ai, ci, rfl⟩ := row_len r2
  obtain ⟨Af, cf, rfl, _⟩ := id r3
  obtain ⟨Aa, ca, rfl⟩ := row_len r4
  obtain ⟨Am, cm, rfl⟩ := row_len r5
  obtain ⟨Ag, cg, rfl⟩ := row_len r6
  obtain ⟨Ax, cx, rfl⟩ := row_len r7
  obtain ⟨Ae, ce, rfl⟩ := row_len r9
  obtain ⟨Ac, cc, rfl⟩ := row_len r10
  obtain ⟨Ad, cd, rfl⟩ := row_len r11
  obtain ⟨nt, hnt⟩ : ∃ n, m.types.length = n := ⟨_, rfl⟩
  obtain ⟨ni, hni⟩ : ∃ n, m.imps.length = n := ⟨_, rfl⟩
  obtain ⟨nf, hnf⟩ : ∃ n, m.funcs.length = n := ⟨_, rfl⟩
  obtain ⟨na, hna⟩ : ∃ n, m.tabs.length = n := ⟨_, rfl⟩
  obtain ⟨nm, hnm⟩ : ∃ n, m.mems.length = n := ⟨_, rfl⟩
  obtain ⟨ng, hng⟩ : ∃ n, m.globs.length = n := ⟨_, rfl⟩
  obtain ⟨nx, hnx⟩ : ∃ n, m.exps.length = n := ⟨_, rfl⟩
  obtain ⟨ne, hne⟩ : ∃ n, m.elems.length = n := ⟨_, rfl⟩
  obtain ⟨nc, hnc⟩ : ∃ n, m.codes.length = n := ⟨_, rfl⟩
  obtain ⟨nd, hnd⟩ : ∃ n, m.datas.length = n := ⟨_, rfl⟩
  rw [hnt] at r1  ⊢
  rw [hni] at r2  ⊢
  rw [hnf] at r3  ⊢
  rw [hna] at r4  ⊢
  rw [hnm] at r5  ⊢
  rw [hng] at r6  ⊢
  rw [hnx] at r7  ⊢
  rw [hne] at r9  ⊢
  rw [hnc] at r10  ⊢
  rw [hnd] at r11  ⊢
  obtain ⟨st, hst⟩ : ∃ s, m.start = s := ⟨_, rfl⟩
  rw [hst]
  have HNnt := Lib.hid hnt
  have HNni := Lib.hid hni
  have HNnf := Lib.hid hnf
  have HNna := Lib.hid hna
  have HNnm := Lib.hid hnm
  have HNng := Lib.hid hng
  have HNnx := Lib.hid hnx
  have HNne := Lib.hid hne
  have HNnc := Lib.hid hnc
  have HNnd := Lib.hid hnd
  have HW0 := Lib.hid ((Below.refl w.heap.size w).alloc (Nat.le_refl _) (.cells #[.slice At1 nt ct, .slice Ai ni ci, .slice Af nf cf, .slice Aa na ca, .slice Am nm cm, .slice Ag ng cg, .slice Ax nx cx, .int .i64 st, .slice Ae ne ce, .slice Ac nc cc, .slice Ad nd cd] 34))
  clear r1 r2 r3 r4 r5 r6 r7 r8 r9 r10 r11 hnt hni hnf hna hnm hng hnx hne hnc hnd hst
  have tnt : decide ((70 : Int) < (nt : Int)) = false := decide_eq_false (by rw [HNnt.out] at h0; omega)
  clear h0
  have tni : decide ((70 : Int) < (ni : Int)) = false := decide_eq_false (by rw [HNni.out] at h1; omega)
  clear h1
  have tnf : decide ((130 : Int) < (nf : Int)) = false := decide_eq_false (by rw [HNnf.out] at h2; omega)
  clear h2
  have tna : decide ((40 : Int) < (na : Int)) = false := decide_eq_false (by rw [HNna.out] at h3; omega)
  clear h3
  have tnm : decide ((40 : Int) < (nm : Int)) = true := decide_eq_true (by rw [HNnm.out] at hx; omega)
  clear hx
  go_enter Tryz.func15, Tryz.ntmps15
  go_wp2_with fail
  exact bodyPost_ret (v := .bool false) (by simp [results, Tryz.results15, go_sem]) rfl (fewno HW0.out)
theorem few_no5 {v : Value} {m : ModT} {w : World} (h : ModAt w v m) (h0 : m.types.length ≤ 70) (h1 : m.imps.length ≤ 70) (h2 : m.funcs.length ≤ 130) (h3 : m.tabs.length ≤ 40) (h4 : m.mems.length ≤ 40) (hx : 70 < m.globs.length) : Calls Tryz.prog 15 #[v] w (FewTold (FewM m) w) := by
  obtain ⟨vt, vi, vf, va, vm, vg, vx, ve, vc, vd, rfl, r1, r2, r3, r4, r5, r6, r7, r8, r9, r10, r11⟩ := h
  obtain ⟨At1, ct, rfl⟩ := row_len r1
  obtain ⟨Ai, ci, rfl⟩ := row_len r2
  obtain ⟨Af, cf, rfl, _⟩ := id r3
  obtain ⟨Aa, ca, rfl⟩ := row_len r4
  obtain ⟨Am, cm, rfl⟩ := row_len r5
  obtain ⟨Ag, cg, rfl⟩ := row_len r6
  obtain ⟨Ax, cx, rfl⟩ := row_len r7
  obtain ⟨Ae, ce, rfl⟩ := row_len r9
  obtain ⟨Ac, cc, rfl⟩ := row_len r10
  obtain ⟨Ad, cd, rfl⟩ := row_len r11
  obtain ⟨nt, hnt⟩ : ∃ n, m.types.length = n := ⟨_, rfl⟩
  obtain ⟨ni, hni⟩ : ∃ n, m.imps.length = n := ⟨_, rfl⟩
  obtain ⟨nf, hnf⟩ : ∃ n, m.funcs.length = n := ⟨_, rfl⟩
  obtain ⟨na, hna⟩ : ∃ n, m.tabs.length = n := ⟨_, rfl⟩
  obtain ⟨nm, hnm⟩ : ∃ n, m.mems.length = n := ⟨_, rfl⟩
  obtain ⟨ng, hng⟩ : ∃ n, m.globs.length = n := ⟨_, rfl⟩
  obtain ⟨nx, hnx⟩ : ∃ n, m.exps.length = n := ⟨_, rfl⟩
  obtain ⟨ne, hne⟩ : ∃ n, m.elems.length = n := ⟨_, rfl⟩
  obtain ⟨nc, hnc⟩ : ∃ n, m.codes.length = n := ⟨_, rfl⟩
  obtain ⟨nd, hnd⟩ : ∃ n, m.datas.length = n := ⟨_, rfl⟩
  rw [hnt] at r1  ⊢
  rw [hni] at r2  ⊢
  rw [hnf] at r3  ⊢
  rw [hna] at r4  ⊢
  rw [hnm] at r5  ⊢
  rw [hng] at r6  ⊢
  rw [hnx] at r7  ⊢
  rw [hne] at r9  ⊢
  rw [hnc] at r10  ⊢
  rw [hnd] at r11  ⊢
  obtain ⟨st, hst⟩ : ∃ s, m.start = s := ⟨_, rfl⟩
  rw [hst]
  have HNnt := Lib.hid hnt
  have HNni := Lib.hid hni
  have HNnf := Lib.hid hnf
  have HNna := Lib.hid hna
  have HNnm := Lib.hid hnm
  have HNng := Lib.hid hng
  have HNnx := Lib.hid hnx
  have HNne := Lib.hid hne
  have HNnc := Lib.hid hnc
  have HNnd := Lib.hid hnd
  have HW0 := Lib.hid ((Below.refl w.heap.size w).alloc (Nat.le_refl _) (.cells #[.slice At1 nt ct, .slice Ai ni ci, .slice Af nf cf, .slice Aa na ca, .slice Am nm cm, .slice Ag ng cg, .slice Ax nx cx, .int .i64 st, .slice Ae ne ce, .slice Ac nc cc, .slice Ad nd cd] 34))
  clear r1 r2 r3 r4 r5 r6 r7 r8 r9 r10 r11 hnt hni hnf hna hnm hng hnx hne hnc hnd hst
  have tnt : decide ((70 : Int) < (nt : Int)) = false := decide_eq_false (by rw [HNnt.out] at h0; omega)
  clear h0
  have tni : decide ((70 : Int) < (ni : Int)) = false := decide_eq_false (by rw [HNni.out] at h1; omega)
  clear h1
  have tnf : decide ((130 : Int) < (nf : Int)) = false := decide_eq_false (by rw [HNnf.out] at h2; omega)
  clear h2
  have tna : decide ((40 : Int) < (na : Int)) = false := decide_eq_false (by rw [HNna.out] at h3; omega)
  clear h3
  have tnm : decide ((40 : Int) < (nm : Int)) = false := decide_eq_false (by rw [HNnm.out] at h4; omega)
  clear h4
  have tng : decide ((70 : Int) < (ng : Int)) = true := decide_eq_true (by rw [HNng.out] at hx; omega)
  clear hx
  go_enter Tryz.func15, Tryz.ntmps15
  go_wp2_with fail
  exact bodyPost_ret (v := .bool false) (by simp [results, Tryz.results15, go_sem]) rfl (fewno HW0.out)
theorem few_no6 {v : Value} {m : ModT} {w : World} (h : ModAt w v m) (h0 : m.types.length ≤ 70) (h1 : m.imps.length ≤ 70) (h2 : m.funcs.length ≤ 130) (h3 : m.tabs.length ≤ 40) (h4 : m.mems.length ≤ 40) (h5 : m.globs.length ≤ 70) (hx : 70 < m.exps.length) : Calls Tryz.prog 15 #[v] w (FewTold (FewM m) w) := by
  obtain ⟨vt, vi, vf, va, vm, vg, vx, ve, vc, vd, rfl, r1, r2, r3, r4, r5, r6, r7, r8, r9, r10, r11⟩ := h
  obtain ⟨At1, ct, rfl⟩ := row_len r1
  obtain ⟨Ai, ci, rfl⟩ := row_len r2
  obtain ⟨Af, cf, rfl, _⟩ := id r3
  obtain ⟨Aa, ca, rfl⟩ := row_len r4
  obtain ⟨Am, cm, rfl⟩ := row_len r5
  obtain ⟨Ag, cg, rfl⟩ := row_len r6
  obtain ⟨Ax, cx, rfl⟩ := row_len r7
  obtain ⟨Ae, ce, rfl⟩ := row_len r9
  obtain ⟨Ac, cc, rfl⟩ := row_len r10
  obtain ⟨Ad, cd, rfl⟩ := row_len r11
  obtain ⟨nt, hnt⟩ : ∃ n, m.types.length = n := ⟨_, rfl⟩
  obtain ⟨ni, hni⟩ : ∃ n, m.imps.length = n := ⟨_, rfl⟩
  obtain ⟨nf, hnf⟩ : ∃ n, m.funcs.length = n := ⟨_, rfl⟩
  obtain ⟨na, hna⟩ : ∃ n, m.tabs.length = n := ⟨_, rfl⟩
  obtain ⟨nm, hnm⟩ : ∃ n, m.mems.length = n := ⟨_, rfl⟩
  obtain ⟨ng, hng⟩ : ∃ n, m.globs.length = n := ⟨_, rfl⟩
  obtain ⟨nx, hnx⟩ : ∃ n, m.exps.length = n := ⟨_, rfl⟩
  obtain ⟨ne, hne⟩ : ∃ n, m.elems.length = n := ⟨_, rfl⟩
  obtain ⟨nc, hnc⟩ : ∃ n, m.codes.length = n := ⟨_, rfl⟩
  obtain ⟨nd, hnd⟩ : ∃ n, m.datas.length = n := ⟨_, rfl⟩
  rw [hnt] at r1  ⊢
  rw [hni] at r2  ⊢
  rw [hnf] at r3  ⊢
  rw [hna] at r4  ⊢
  rw [hnm] at r5  ⊢
  rw [hng] at r6  ⊢
  rw [hnx] at r7  ⊢
  rw [hne] at r9  ⊢
  rw [hnc] at r10  ⊢
  rw [hnd] at r11  ⊢
  obtain ⟨st, hst⟩ : ∃ s, m.start = s := ⟨_, rfl⟩
  rw [hst]
  have HNnt := Lib.hid hnt
  have HNni := Lib.hid hni
  have HNnf := Lib.hid hnf
  have HNna := Lib.hid hna
  have HNnm := Lib.hid hnm
  have HNng := Lib.hid hng
  have HNnx := Lib.hid hnx
  have HNne := Lib.hid hne
  have HNnc := Lib.hid hnc
  have HNnd := Lib.hid hnd
  have HW0 := Lib.hid ((Below.refl w.heap.size w).alloc (Nat.le_refl _) (.cells #[.slice At1 nt ct, .slice Ai ni ci, .slice Af nf cf, .slice Aa na ca, .slice Am nm cm, .slice Ag ng cg, .slice Ax nx cx, .int .i64 st, .slice Ae ne ce, .slice Ac nc cc, .slice Ad nd cd] 34))
  clear r1 r2 r3 r4 r5 r6 r7 r8 r9 r10 r11 hnt hni hnf hna hnm hng hnx hne hnc hnd hst
  have tnt : decide ((70 : Int) < (nt : Int)) = false := decide_eq_false (by rw [HNnt.out] at h0; omega)
  clear h0
  have tni : decide ((70 : Int) < (ni : Int)) = false := decide_eq_false (by rw [HNni.out] at h1; omega)
  clear h1
  have tnf : decide ((130 : Int) < (nf : Int)) = false := decide_eq_false (by rw [HNnf.out] at h2; omega)
  clear h2
  have tna : decide ((40 : Int) < (na : Int)) = false := decide_eq_false (by rw [HNna.out] at h3; omega)
  clear h3
  have tnm : decide ((40 : Int) < (nm : Int)) = false := decide_eq_false (by rw [HNnm.out] at h4; omega)
  clear h4
  have tng : decide ((70 : Int) < (ng : Int)) = false := decide_eq_false (by rw [HNng.out] at h5; omega)
  clear h5
  have tnx : decide ((70 : Int) < (nx : Int)) = true := decide_eq_true (by rw [HNnx.out] at hx; omega)
  clear hx
  go_enter Tryz.func15, Tryz.ntmps15
  go_wp2_with fail
  exact bodyPost_ret (v := .bool false) (by simp [results, Tryz.results15, go_sem]) rfl (fewno HW0.out)
theorem few_no7 {v : Value} {m : ModT} {w : World} (h : ModAt w v m) (h0 : m.types.length ≤ 70) (h1 : m.imps.length ≤ 70) (h2 : m.funcs.length ≤ 130) (h3 : m.tabs.length ≤ 40) (h4 : m.mems.length ≤ 40) (h5 : m.globs.length ≤ 70) (h6 : m.exps.length ≤ 70) (hx : 40 < m.elems.length) : Calls Tryz.prog 15 #[v] w (FewTold (FewM m) w) := by
  obtain ⟨vt, vi, vf, va, vm, vg, vx, ve, vc, vd, rfl, r1, r2, r3, r4, r5, r6, r7, r8, r9, r10, r11⟩ := h
  obtain ⟨At1, ct, rfl⟩ := row_len r1
  obtain ⟨Ai, ci, rfl⟩ := row_len r2
  obtain ⟨Af, cf, rfl, _⟩ := id r3
  obtain ⟨Aa, ca, rfl⟩ := row_len r4
  obtain ⟨Am, cm, rfl⟩ := row_len r5
  obtain ⟨Ag, cg, rfl⟩ := row_len r6
  obtain ⟨Ax, cx, rfl⟩ := row_len r7
  obtain ⟨Ae, ce, rfl⟩ := row_len r9
  obtain ⟨Ac, cc, rfl⟩ := row_len r10
  obtain ⟨Ad, cd, rfl⟩ := row_len r11
  obtain ⟨nt, hnt⟩ : ∃ n, m.types.length = n := ⟨_, rfl⟩
  obtain ⟨ni, hni⟩ : ∃ n, m.imps.length = n := ⟨_, rfl⟩
  obtain ⟨nf, hnf⟩ : ∃ n, m.funcs.length = n := ⟨_, rfl⟩
  obtain ⟨na, hna⟩ : ∃ n, m.tabs.length = n := ⟨_, rfl⟩
  obtain ⟨nm, hnm⟩ : ∃ n, m.mems.length = n := ⟨_, rfl⟩
  obtain ⟨ng, hng⟩ : ∃ n, m.globs.length = n := ⟨_, rfl⟩
  obtain ⟨nx, hnx⟩ : ∃ n, m.exps.length = n := ⟨_, rfl⟩
  obtain ⟨ne, hne⟩ : ∃ n, m.elems.length = n := ⟨_, rfl⟩
  obtain ⟨nc, hnc⟩ : ∃ n, m.codes.length = n := ⟨_, rfl⟩
  obtain ⟨nd, hnd⟩ : ∃ n, m.datas.length = n := ⟨_, rfl⟩
  rw [hnt] at r1  ⊢
  rw [hni] at r2  ⊢
  rw [hnf] at r3  ⊢
  rw [hna] at r4  ⊢
  rw [hnm] at r5  ⊢
  rw [hng] at r6  ⊢
  rw [hnx] at r7  ⊢
  rw [hne] at r9  ⊢
  rw [hnc] at r10  ⊢
  rw [hnd] at r11  ⊢
  obtain ⟨st, hst⟩ : ∃ s, m.start = s := ⟨_, rfl⟩
  rw [hst]
  have HNnt := Lib.hid hnt
  have HNni := Lib.hid hni
  have HNnf := Lib.hid hnf
  have HNna := Lib.hid hna
  have HNnm := Lib.hid hnm
  have HNng := Lib.hid hng
  have HNnx := Lib.hid hnx
  have HNne := Lib.hid hne
  have HNnc := Lib.hid hnc
  have HNnd := Lib.hid hnd
  have HW0 := Lib.hid ((Below.refl w.heap.size w).alloc (Nat.le_refl _) (.cells #[.slice At1 nt ct, .slice Ai ni ci, .slice Af nf cf, .slice Aa na ca, .slice Am nm cm, .slice Ag ng cg, .slice Ax nx cx, .int .i64 st, .slice Ae ne ce, .slice Ac nc cc, .slice Ad nd cd] 34))
  clear r1 r2 r3 r4 r5 r6 r7 r8 r9 r10 r11 hnt hni hnf hna hnm hng hnx hne hnc hnd hst
  have tnt : decide ((70 : Int) < (nt : Int)) = false := decide_eq_false (by rw [HNnt.out] at h0; omega)
  clear h0
  have tni : decide ((70 : Int) < (ni : Int)) = false := decide_eq_false (by rw [HNni.out] at h1; omega)
  clear h1
  have tnf : decide ((130 : Int) < (nf : Int)) = false := decide_eq_false (by rw [HNnf.out] at h2; omega)
  clear h2
  have tna : decide ((40 : Int) < (na : Int)) = false := decide_eq_false (by rw [HNna.out] at h3; omega)
  clear h3
  have tnm : decide ((40 : Int) < (nm : Int)) = false := decide_eq_false (by rw [HNnm.out] at h4; omega)
  clear h4
  have tng : decide ((70 : Int) < (ng : Int)) = false := decide_eq_false (by rw [HNng.out] at h5; omega)
  clear h5
  have tnx : decide ((70 : Int) < (nx : Int)) = false := decide_eq_false (by rw [HNnx.out] at h6; omega)
  clear h6
  have tne : decide ((40 : Int) < (ne : Int)) = true := decide_eq_true (by rw [HNne.out] at hx; omega)
  clear hx
  go_enter Tryz.func15, Tryz.ntmps15
  go_wp2_with fail
  exact bodyPost_ret (v := .bool false) (by simp [results, Tryz.results15, go_sem]) rfl (fewno HW0.out)
theorem few_no8 {v : Value} {m : ModT} {w : World} (h : ModAt w v m) (h0 : m.types.length ≤ 70) (h1 : m.imps.length ≤ 70) (h2 : m.funcs.length ≤ 130) (h3 : m.tabs.length ≤ 40) (h4 : m.mems.length ≤ 40) (h5 : m.globs.length ≤ 70) (h6 : m.exps.length ≤ 70) (h7 : m.elems.length ≤ 40) (hx : 30 < m.codes.length) : Calls Tryz.prog 15 #[v] w (FewTold (FewM m) w) := by
  obtain ⟨vt, vi, vf, va, vm, vg, vx, ve, vc, vd, rfl, r1, r2, r3, r4, r5, r6, r7, r8, r9, r10, r11⟩ := h
  obtain ⟨At1, ct, rfl⟩ := row_len r1
  obtain ⟨Ai, ci, rfl⟩ := row_len r2
  obtain ⟨Af, cf, rfl, _⟩ := id r3
  obtain ⟨Aa, ca, rfl⟩ := row_len r4
  obtain ⟨Am, cm, rfl⟩ := row_len r5
  obtain ⟨Ag, cg, rfl⟩ := row_len r6
  obtain ⟨Ax, cx, rfl⟩ := row_len r7
  obtain ⟨Ae, ce, rfl⟩ := row_len r9
  obtain ⟨Ac, cc, rfl⟩ := row_len r10
  obtain ⟨Ad, cd, rfl⟩ := row_len r11
  obtain ⟨nt, hnt⟩ : ∃ n, m.types.length = n := ⟨_, rfl⟩
  obtain ⟨ni, hni⟩ : ∃ n, m.imps.length = n := ⟨_, rfl⟩
  obtain ⟨nf, hnf⟩ : ∃ n, m.funcs.length = n := ⟨_, rfl⟩
  obtain ⟨na, hna⟩ : ∃ n, m.tabs.length = n := ⟨_, rfl⟩
  obtain ⟨nm, hnm⟩ : ∃ n, m.mems.length = n := ⟨_, rfl⟩
  obtain ⟨ng, hng⟩ : ∃ n, m.globs.length = n := ⟨_, rfl⟩
  obtain ⟨nx, hnx⟩ : ∃ n, m.exps.length = n := ⟨_, rfl⟩
  obtain ⟨ne, hne⟩ : ∃ n, m.elems.length = n := ⟨_, rfl⟩
  obtain ⟨nc, hnc⟩ : ∃ n, m.codes.length = n := ⟨_, rfl⟩
  obtain ⟨nd, hnd⟩ : ∃ n, m.datas.length = n := ⟨_, rfl⟩
  rw [hnt] at r1  ⊢
  rw [hni] at r2  ⊢
  rw [hnf] at r3  ⊢
  rw [hna] at r4  ⊢
  rw [hnm] at r5  ⊢
  rw [hng] at r6  ⊢
  rw [hnx] at r7  ⊢
  rw [hne] at r9  ⊢
  rw [hnc] at r10  ⊢
  rw [hnd] at r11  ⊢
  obtain ⟨st, hst⟩ : ∃ s, m.start = s := ⟨_, rfl⟩
  rw [hst]
  have HNnt := Lib.hid hnt
  have HNni := Lib.hid hni
  have HNnf := Lib.hid hnf
  have HNna := Lib.hid hna
  have HNnm := Lib.hid hnm
  have HNng := Lib.hid hng
  have HNnx := Lib.hid hnx
  have HNne := Lib.hid hne
  have HNnc := Lib.hid hnc
  have HNnd := Lib.hid hnd
  have HW0 := Lib.hid ((Below.refl w.heap.size w).alloc (Nat.le_refl _) (.cells #[.slice At1 nt ct, .slice Ai ni ci, .slice Af nf cf, .slice Aa na ca, .slice Am nm cm, .slice Ag ng cg, .slice Ax nx cx, .int .i64 st, .slice Ae ne ce, .slice Ac nc cc, .slice Ad nd cd] 34))
  clear r1 r2 r3 r4 r5 r6 r7 r8 r9 r10 r11 hnt hni hnf hna hnm hng hnx hne hnc hnd hst
  have tnt : decide ((70 : Int) < (nt : Int)) = false := decide_eq_false (by rw [HNnt.out] at h0; omega)
  clear h0
  have tni : decide ((70 : Int) < (ni : Int)) = false := decide_eq_false (by rw [HNni.out] at h1; omega)
  clear h1
  have tnf : decide ((130 : Int) < (nf : Int)) = false := decide_eq_false (by rw [HNnf.out] at h2; omega)
  clear h2
  have tna : decide ((40 : Int) < (na : Int)) = false := decide_eq_false (by rw [HNna.out] at h3; omega)
  clear h3
  have tnm : decide ((40 : Int) < (nm : Int)) = false := decide_eq_false (by rw [HNnm.out] at h4; omega)
  clear h4
  have tng : decide ((70 : Int) < (ng : Int)) = false := decide_eq_false (by rw [HNng.out] at h5; omega)
  clear h5
  have tnx : decide ((70 : Int) < (nx : Int)) = false := decide_eq_false (by rw [HNnx.out] at h6; omega)
  clear h6
  have tne : decide ((40 : Int) < (ne : Int)) = false := decide_eq_false (by rw [HNne.out] at h7; omega)
  clear h7
  have tnc : decide ((30 : Int) < (nc : Int)) = true := decide_eq_true (by rw [HNnc.out] at hx; omega)
  clear hx
  go_enter Tryz.func15, Tryz.ntmps15
  go_wp2_with fail
  exact bodyPost_ret (v := .bool false) (by simp [results, Tryz.results15, go_sem]) rfl (fewno HW0.out)
theorem few_no9 {v : Value} {m : ModT} {w : World} (h : ModAt w v m) (h0 : m.types.length ≤ 70) (h1 : m.imps.length ≤ 70) (h2 : m.funcs.length ≤ 130) (h3 : m.tabs.length ≤ 40) (h4 : m.mems.length ≤ 40) (h5 : m.globs.length ≤ 70) (h6 : m.exps.length ≤ 70) (h7 : m.elems.length ≤ 40) (h8 : m.codes.length ≤ 30) (hx : 40 < m.datas.length) : Calls Tryz.prog 15 #[v] w (FewTold (FewM m) w) := by
  obtain ⟨vt, vi, vf, va, vm, vg, vx, ve, vc, vd, rfl, r1, r2, r3, r4, r5, r6, r7, r8, r9, r10, r11⟩ := h
  obtain ⟨At1, ct, rfl⟩ := row_len r1
  obtain ⟨Ai, ci, rfl⟩ := row_len r2
  obtain ⟨Af, cf, rfl, _⟩ := id r3
  obtain ⟨Aa, ca, rfl⟩ := row_len r4
  obtain ⟨Am, cm, rfl⟩ := row_len r5
  obtain ⟨Ag, cg, rfl⟩ := row_len r6
  obtain ⟨Ax, cx, rfl⟩ := row_len r7
  obtain ⟨Ae, ce, rfl⟩ := row_len r9
  obtain ⟨Ac, cc, rfl⟩ := row_len r10
  obtain ⟨Ad, cd, rfl⟩ := row_len r11
  obtain ⟨nt, hnt⟩ : ∃ n, m.types.length = n := ⟨_, rfl⟩
  obtain ⟨ni, hni⟩ : ∃ n, m.imps.length = n := ⟨_, rfl⟩
  obtain ⟨nf, hnf⟩ : ∃ n, m.funcs.length = n := ⟨_, rfl⟩
  obtain ⟨na, hna⟩ : ∃ n, m.tabs.length = n := ⟨_, rfl⟩
  obtain ⟨nm, hnm⟩ : ∃ n, m.mems.length = n := ⟨_, rfl⟩
  obtain ⟨ng, hng⟩ : ∃ n, m.globs.length = n := ⟨_, rfl⟩
  obtain ⟨nx, hnx⟩ : ∃ n, m.exps.length = n := ⟨_, rfl⟩
  obtain ⟨ne, hne⟩ : ∃ n, m.elems.length = n := ⟨_, rfl⟩
  obtain ⟨nc, hnc⟩ : ∃ n, m.codes.length = n := ⟨_, rfl⟩
  obtain ⟨nd, hnd⟩ : ∃ n, m.datas.length = n := ⟨_, rfl⟩
  rw [hnt] at r1  ⊢
  rw [hni] at r2  ⊢
  rw [hnf] at r3  ⊢
  rw [hna] at r4  ⊢
  rw [hnm] at r5  ⊢
  rw [hng] at r6  ⊢
  rw [hnx] at r7  ⊢
  rw [hne] at r9  ⊢
  rw [hnc] at r10  ⊢
  rw [hnd] at r11  ⊢
  obtain ⟨st, hst⟩ : ∃ s, m.start = s := ⟨_, rfl⟩
  rw [hst]
  have HNnt := Lib.hid hnt
  have HNni := Lib.hid hni
  have HNnf := Lib.hid hnf
  have HNna := Lib.hid hna
  have HNnm := Lib.hid hnm
  have HNng := Lib.hid hng
  have HNnx := Lib.hid hnx
  have HNne := Lib.hid hne
  have HNnc := Lib.hid hnc
  have HNnd := Lib.hid hnd
  have HW0 := Lib.hid ((Below.refl w.heap.size w).alloc (Nat.le_refl _) (.cells #[.slice At1 nt ct, .slice Ai ni ci, .slice Af nf cf, .slice Aa na ca, .slice Am nm cm, .slice Ag ng cg, .slice Ax nx cx, .int .i64 st, .slice Ae ne ce, .slice Ac nc cc, .slice Ad nd cd] 34))
  clear r1 r2 r3 r4 r5 r6 r7 r8 r9 r10 r11 hnt hni hnf hna hnm hng hnx hne hnc hnd hst
  have tnt : decide ((70 : Int) < (nt : Int)) = false := decide_eq_false (by rw [HNnt.out] at h0; omega)
  clear h0
  have tni : decide ((70 : Int) < (ni : Int)) = false := decide_eq_false (by rw [HNni.out] at h1; omega)
  clear h1
  have tnf : decide ((130 : Int) < (nf : Int)) = false := decide_eq_false (by rw [HNnf.out] at h2; omega)
  clear h2
  have tna : decide ((40 : Int) < (na : Int)) = false := decide_eq_false (by rw [HNna.out] at h3; omega)
  clear h3
  have tnm : decide ((40 : Int) < (nm : Int)) = false := decide_eq_false (by rw [HNnm.out] at h4; omega)
  clear h4
  have tng : decide ((70 : Int) < (ng : Int)) = false := decide_eq_false (by rw [HNng.out] at h5; omega)
  clear h5
  have tnx : decide ((70 : Int) < (nx : Int)) = false := decide_eq_false (by rw [HNnx.out] at h6; omega)
  clear h6
  have tne : decide ((40 : Int) < (ne : Int)) = false := decide_eq_false (by rw [HNne.out] at h7; omega)
  clear h7
  have tnc : decide ((30 : Int) < (nc : Int)) = false := decide_eq_false (by rw [HNnc.out] at h8; omega)
  clear h8
  have tnd : decide ((40 : Int) < (nd : Int)) = true := decide_eq_true (by rw [HNnd.out] at hx; omega)
  clear hx
  go_enter Tryz.func15, Tryz.ntmps15
  go_wp2_with fail
  exact bodyPost_ret (v := .bool false) (by simp [results, Tryz.results15, go_sem]) rfl (fewno HW0.out)
theorem few_m {v : Value} {m : ModT} {w : World} (h : ModAt w v m) : Calls Tryz.prog 15 #[v] w (FewTold (FewM m) w) := by
  by_cases h0 : m.types.length ≤ 70
  case neg => exact few_no0 h  (by omega)
  by_cases h1 : m.imps.length ≤ 70
  case neg => exact few_no1 h h0 (by omega)
  by_cases h2 : m.funcs.length ≤ 130
  case neg => exact few_no2 h h0 h1 (by omega)
  by_cases h3 : m.tabs.length ≤ 40
  case neg => exact few_no3 h h0 h1 h2 (by omega)
  by_cases h4 : m.mems.length ≤ 40
  case neg => exact few_no4 h h0 h1 h2 h3 (by omega)
  by_cases h5 : m.globs.length ≤ 70
  case neg => exact few_no5 h h0 h1 h2 h3 h4 (by omega)
  by_cases h6 : m.exps.length ≤ 70
  case neg => exact few_no6 h h0 h1 h2 h3 h4 h5 (by omega)
  by_cases h7 : m.elems.length ≤ 40
  case neg => exact few_no7 h h0 h1 h2 h3 h4 h5 h6 (by omega)
  by_cases h8 : m.codes.length ≤ 30
  case neg => exact few_no8 h h0 h1 h2 h3 h4 h5 h6 h7 (by omega)
  by_cases h9 : m.datas.length ≤ 40
  case neg => exact few_no9 h h0 h1 h2 h3 h4 h5 h6 h7 h8 (by omega)
  exact few_short h ⟨h0, h1, h2, h3, h4, h5, h6, h7, h8, h9⟩
end Go.Proofs.YtffegkjlgeblbaaGreatDoor.Mdl
