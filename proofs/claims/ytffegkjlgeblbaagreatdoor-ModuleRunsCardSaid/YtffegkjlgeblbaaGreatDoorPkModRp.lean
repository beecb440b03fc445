/- ModFewC, ModRp. -/
import Derived.Test.YtffegkjlgeblbaaGreatDoorPkModLd
import Derived.Test.YtffegkjlgeblbaaGreatDoorPkBodSame
import Derived.Test.YtffegkjlgeblbaaGreatDoorPkBodPutP
import Derived.Test.YtffegkjlgeblbaaGreatDoorPkTypWithin
import Derived.Test.YtffegkjlgeblbaaGreatDoorPkUtfCame
import Derived.Test.YtffegkjlgeblbaaGreatDoorPkTypPutM
section
/- Few parts, and short ones, by the document: walked. -/
namespace Go.Proofs.YtffegkjlgeblbaaGreatDoor.Mdl
open Go.RowKit Ints Typ Ins
set_option maxRecDepth 100000
set_option maxHeartbeats 4000000
set_option linter.unusedVariables false
/-- Codes, globals, elements and data: few, and short. -/
def CodesM (m : ModT) : Prop := (∀ p ∈ m.codes, p.1.1.length ≤ 100 ∧ Bod.FewB p.2.1 120) ∧ (∀ p ∈ m.globs, p.2.2.1.L.length ≤ 70) ∧ (∀ p ∈ m.elems, p.1.1.L.length ≤ 70 ∧ p.2.1.length ≤ 300) ∧ (∀ p ∈ m.datas, p.1.1.L.length ≤ 70 ∧ p.2.1.length ≤ 70000)
/-- A module of few parts, and short ones. -/
def FewM (m : ModT) : Prop := (m.types.length ≤ 70 ∧ m.imps.length ≤ 70 ∧ m.funcs.length ≤ 130 ∧ m.tabs.length ≤ 40 ∧ m.mems.length ≤ 40 ∧ m.globs.length ≤ 70 ∧ m.exps.length ≤ 70 ∧ m.elems.length ≤ 40 ∧ m.codes.length ≤ 30 ∧ m.datas.length ≤ 40) ∧
  (∀ p ∈ m.types, p.1.1.length ≤ 100 ∧ p.2.1.length ≤ 100) ∧ (∀ p ∈ m.imps, p.md.size ≤ 100 ∧ p.nm.size ≤ 100) ∧ (∀ p ∈ m.exps, p.1.size ≤ 100) ∧ CodesM m
theorem HX1 {a b : ByteArray} {c : Nat} (h : a = b) (k : b.size ≤ c) : a.size ≤ c := h ▸ k
theorem HX0 {a b c : Nat} (h : a = b) (k : b ≤ c) : a ≤ c := h ▸ k
/-- What is told of it. -/
def FewTold (P : Prop) (w : World) (e : Ending) (w' : World) : Prop := ∃ b : Bool, e = .returned (.bool b) ∧ (b = true → P) ∧ Below w.heap.size w w'
theorem fewno {P : Prop} {w w' : World} (h : Below w.heap.size w w') : FewTold P w (.returned (.bool false)) w' := ⟨_, rfl, fun h => (by cases h), h⟩
theorem codes_any {v : Value} {m : ModT} {w : World} (h : ModAt w v m) : Calls Tryz.prog 43 #[v] w (FewTold (CodesM m) w) := by
  obtain ⟨vt, vi, vf, va, vm, vg, vx, ve, vc, vd, rfl, r1, r2, r3, r4, r5, r6, r7, r8, r9, r10, r11⟩ := h
  obtain ⟨At1, ct, rfl⟩ := row_len r1
  obtain ⟨Ai, ci, rfl⟩ := row_len r2
  obtain ⟨Af, cf, rfl, _⟩ := id r3
  obtain ⟨Aa, ca, rfl⟩ := row_len r4
  obtain ⟨Am, cm, rfl⟩ := row_len r5
  obtain ⟨Ag, cg, rfl⟩ := row_len r6
  obtain ⟨Ax, cx, rfl⟩ := row_len r7
  obtain ⟨Ae, ce, rfl⟩ := row_len r9
  obtain ⟨Ac, cc, rfl⟩ := row_len r10
  obtain ⟨Ad, cd, rfl⟩ := row_len r11
  obtain ⟨nt, hnt⟩ : ∃ n, m.types.length = n := ⟨_, rfl⟩
  obtain ⟨ni, hni⟩ : ∃ n, m.imps.length = n := ⟨_, rfl⟩
  obtain ⟨nf, hnf⟩ : ∃ n, m.funcs.length = n := ⟨_, rfl⟩
  obtain ⟨na, hna⟩ : ∃ n, m.tabs.length = n := ⟨_, rfl⟩
  obtain ⟨nm, hnm⟩ : ∃ n, m.mems.length = n := ⟨_, rfl⟩
  obtain ⟨ng, hng⟩ : ∃ n, m.globs.length = n := ⟨_, rfl⟩
  obtain ⟨nx, hnx⟩ : ∃ n, m.exps.length = n := ⟨_, rfl⟩
  obtain ⟨ne, hne⟩ : ∃ n, m.elems.length = n := ⟨_, rfl⟩
  obtain ⟨nc, hnc⟩ : ∃ n, m.codes.length = n := ⟨_, rfl⟩
  obtain ⟨nd, hnd⟩ : ∃ n, m.datas.length = n := ⟨_, rfl⟩
  rw [hnt] at r1  ⊢
  rw [hni] at r2  ⊢
  rw [hnf] at r3  ⊢
  rw [hna] at r4  ⊢
  rw [hnm] at r5  ⊢
  rw [hng] at r6  ⊢
  rw [hnx] at r7  ⊢
  rw [hne] at r9  ⊢
  rw [hnc] at r10  ⊢
  rw [hnd] at r11  ⊢
  obtain ⟨st, hst⟩ : ∃ s, m.start = s := ⟨_, rfl⟩
  rw [hst]
  have HNnt := Lib.hid hnt
  have HNni := Lib.hid hni
  have HNnf := Lib.hid hnf
  have HNna := Lib.hid hna
  have HNnm := Lib.hid hnm
  have HNng := Lib.hid hng
  have HRng := Lib.hid r6
  have HBng : Hid (ng ≤ 9223372036854775807) := Lib.hid (by have := r6.form; obtain ⟨A9, c9, e9, l9, m9⟩ := this; injection e9 with _ e1 e2; omega)
  have HNnx := Lib.hid hnx
  have HNne := Lib.hid hne
  have HRne := Lib.hid r9
  have HBne : Hid (ne ≤ 9223372036854775807) := Lib.hid (by have := r9.form; obtain ⟨A9, c9, e9, l9, m9⟩ := this; injection e9 with _ e1 e2; omega)
  have HNnc := Lib.hid hnc
  have HRnc := Lib.hid r10
  have HBnc : Hid (nc ≤ 9223372036854775807) := Lib.hid (by have := r10.form; obtain ⟨A9, c9, e9, l9, m9⟩ := this; injection e9 with _ e1 e2; omega)
  have HNnd := Lib.hid hnd
  have HRnd := Lib.hid r11
  have HBnd : Hid (nd ≤ 9223372036854775807) := Lib.hid (by have := r11.form; obtain ⟨A9, c9, e9, l9, m9⟩ := this; injection e9 with _ e1 e2; omega)
  have HW0 := Lib.hid ((Below.refl w.heap.size w).alloc (Nat.le_refl _) (.cells #[.slice At1 nt ct, .slice Ai ni ci, .slice Af nf cf, .slice Aa na ca, .slice Am nm cm, .slice Ag ng cg, .slice Ax nx cx, .int .i64 st, .slice Ae ne ce, .slice Ac nc cc, .slice Ad nd cd] 34))
  clear r1 r2 r3 r4 r5 r6 r7 r8 r9 r10 r11 hnt hni hnf hna hnm hng hnx hne hnc hnd hst
  go_enter Tryz.func43, Tryz.ntmps43
  go_wp2_with fail
  go_loop [3] (fun i' => ∃ i : Nat, i' = .int .i64 (i : Int) ∧ i ≤ nc ∧ ∀ q, q < i → ∀ p, m.codes[q]? = some p → p.1.1.length ≤ 100 ∧ Bod.FewB p.2.1 120) (fun i' => nc - (intOf i').toNat)
  case atStart => exact ⟨0, by go_num, by omega, fun q hq => absurd hq (by omega)⟩
  case round =>
    obtain ⟨i, rfl, hi, hall⟩ := hrel
    have HALL := Lib.hid hall
    clear hall
    by_cases hlt : i < nc
    · obtain ⟨p, hp⟩ : ∃ p, m.codes[i]? = some p := ⟨_, List.getElem?_eq_getElem (by rw [HNnc.out]; exact hlt)⟩
      obtain ⟨g, off, rfl, hg, hA, hok⟩ := (HRnc.out.keep HW0.out).at_ hp
      have HP := Lib.hid hp
      rw [show (elC.s) = 2 from rfl] at hA
      have q0 := hA 0 p.1.2 rfl
      rw [Nat.add_zero] at q0
      obtain ⟨P0, d0, hv0, _⟩ := id (hok.1.1)
      obtain ⟨n0, hn0⟩ : ∃ k, p.1.1.length = k := ⟨_, rfl⟩
      have HL0 := Lib.hid hn0
      rw [hn0] at hv0
      rw [hv0] at q0
      clear hv0 hn0
      have q9 := hA 1 p.2.2 rfl
      have hrow := hok.2
      obtain ⟨⟨PB, dB, hvB, _⟩, _⟩ := id hrow
      obtain ⟨nB, hnB⟩ : ∃ k, p.2.1.length = k := ⟨_, rfl⟩
      have HBN := Lib.hid hnB
      rw [hnB] at hvB
      rw [hvB] at q9 hrow
      have HBR := Lib.hid hrow
      clear hvB hnB hrow
      have hHB := HBnc.out
      have i1 : (0 : Int) ≤ (i : Int) := by omega
      have i2 : (i : Int) < (nc : Int) := by omega
      have hw1 : IntKind.i64.wrap ((i : Int) + 1) = (i : Int) + 1 := IntWalk.i64_in _ (by omega)
      clear hA hp hHB
      by_cases hb0 : n0 ≤ 100
      · have HT0 := Lib.hid hb0
        have t0 : decide ((100 : Int) < (n0 : Int)) = false := decide_eq_false (by omega)
        go_wp2_with fail
        refine (Bod.few_any 120 HBN.out (HBR.out)).mono ?_
        rintro en w1 ⟨⟨b, rfl, hb⟩, rfl⟩
        have HCL := Lib.hid hb
        clear hb
        cases b with
        | false =>
          go_wp2_with fail
          exact bodyPost_ret (v := .bool false) (by simp [results, Tryz.results43, go_sem]) rfl (fewno HW0.out)
        | true =>
          have HNX : Hid (∀ q, q < i + 1 → ∀ p, m.codes[q]? = some p → p.1.1.length ≤ 100 ∧ Bod.FewB p.2.1 120) := fun q hq p' hp' => by
            by_cases e : q = i
            · subst e
              obtain rfl := Option.some.inj (HP.out.symm.trans hp')
              exact ⟨HX0 HL0.out HT0.out, HCL.out.1 rfl⟩
            · exact HALL.out q (by omega) p' hp'
          clear hb0
          go_wp2_with fail
          go_round
          case rel => exact ⟨i + 1, by go_num, hlt, HNX.out⟩
          case measure => simp [intOf]; omega
      · have t0 : decide ((100 : Int) < (n0 : Int)) = true := decide_eq_true (by omega)
        clear hb0
        go_wp2_with fail
        exact bodyPost_ret (v := .bool false) (by simp [results, Tryz.results43, go_sem]) rfl (fewno HW0.out)
    · obtain rfl : i = nc := by omega
      have HYnc : Hid (∀ p ∈ m.codes, p.1.1.length ≤ 100 ∧ Bod.FewB p.2.1 120) := fun p hp => by
        obtain ⟨q, hq⟩ := List.getElem?_of_mem hp
        exact HALL.out q (by have := (List.getElem?_eq_some_iff.1 hq).1; rwa [HNnc.out] at this) p hq
      clear hlt HALL
      go_wp2_with fail
      go_loop [4] (fun i' => ∃ i : Nat, i' = .int .i64 (i : Int) ∧ i ≤ ng ∧ ∀ q, q < i → ∀ p, m.globs[q]? = some p → p.2.2.1.L.length ≤ 70) (fun i' => ng - (intOf i').toNat)
      case atStart => exact ⟨0, by go_num, by omega, fun q hq => absurd hq (by omega)⟩
      case round =>
        obtain ⟨i, rfl, hi, hall⟩ := hrel
        have HALL := Lib.hid hall
        clear hall
        by_cases hlt : i < ng
        · obtain ⟨p, hp⟩ : ∃ p, m.globs[i]? = some p := ⟨_, List.getElem?_eq_getElem (by rw [HNng.out]; exact hlt)⟩
          obtain ⟨g, off, rfl, hg, hA, hok⟩ := (HRng.out.keep HW0.out).at_ hp
          have HP := Lib.hid hp
          rw [show (elG.s) = 7 from rfl] at hA
          have q0 := hA 6 p.2.2.2 rfl
          obtain ⟨P0, d0, hv0, _⟩ := id (hok.2.1)
          obtain ⟨n0, hn0⟩ : ∃ k, p.2.2.1.L.length = k := ⟨_, rfl⟩
          have HL0 := Lib.hid hn0
          rw [hn0] at hv0
          rw [hv0] at q0
          clear hv0 hn0
          have hHB := HBng.out
          have i1 : (0 : Int) ≤ (i : Int) := by omega
          have i2 : (i : Int) < (ng : Int) := by omega
          have hw1 : IntKind.i64.wrap ((i : Int) + 1) = (i : Int) + 1 := IntWalk.i64_in _ (by omega)
          clear hA hp hHB
          by_cases hb0 : n0 ≤ 70
          · have HT0 := Lib.hid hb0
            have t0 : decide ((70 : Int) < (n0 : Int)) = false := decide_eq_false (by omega)
            have HNX : Hid (∀ q, q < i + 1 → ∀ p, m.globs[q]? = some p → p.2.2.1.L.length ≤ 70) := fun q hq p' hp' => by
              by_cases e : q = i
              · subst e
                obtain rfl := Option.some.inj (HP.out.symm.trans hp')
                exact HX0 HL0.out HT0.out
              · exact HALL.out q (by omega) p' hp'
            clear hb0
            go_wp2_with fail
            go_round
            case rel => exact ⟨i + 1, by go_num, hlt, HNX.out⟩
            case measure => simp [intOf]; omega
          · have t0 : decide ((70 : Int) < (n0 : Int)) = true := decide_eq_true (by omega)
            clear hb0
            go_wp2_with fail
            exact bodyPost_ret (v := .bool false) (by simp [results, Tryz.results43, go_sem]) rfl (fewno HW0.out)
        · obtain rfl : i = ng := by omega
          have HYng : Hid (∀ p ∈ m.globs, p.2.2.1.L.length ≤ 70) := fun p hp => by
            obtain ⟨q, hq⟩ := List.getElem?_of_mem hp
            exact HALL.out q (by have := (List.getElem?_eq_some_iff.1 hq).1; rwa [HNng.out] at this) p hq
          clear hlt HALL
          go_wp2_with fail
          go_loop [5] (fun i' => ∃ i : Nat, i' = .int .i64 (i : Int) ∧ i ≤ ne ∧ ∀ q, q < i → ∀ p, m.elems[q]? = some p → p.1.1.L.length ≤ 70 ∧ p.2.1.length ≤ 300) (fun i' => ne - (intOf i').toNat)
          case atStart => exact ⟨0, by go_num, by omega, fun q hq => absurd hq (by omega)⟩
          case round =>
            obtain ⟨i, rfl, hi, hall⟩ := hrel
            have HALL := Lib.hid hall
            clear hall
            by_cases hlt : i < ne
            · obtain ⟨p, hp⟩ : ∃ p, m.elems[i]? = some p := ⟨_, List.getElem?_eq_getElem (by rw [HNne.out]; exact hlt)⟩
              obtain ⟨g, off, rfl, hg, hA, hok⟩ := (HRne.out.keep HW0.out).at_ hp
              have HP := Lib.hid hp
              rw [show (elE.s) = 6 from rfl] at hA
              have q0 := hA 4 p.1.2 rfl
              obtain ⟨P0, d0, hv0, _⟩ := id (hok.1.1)
              obtain ⟨n0, hn0⟩ : ∃ k, p.1.1.L.length = k := ⟨_, rfl⟩
              have HL0 := Lib.hid hn0
              rw [hn0] at hv0
              rw [hv0] at q0
              clear hv0 hn0
              have q1 := hA 5 p.2.2 rfl
              obtain ⟨P1, d1, hv1, _⟩ := id (hok.2)
              obtain ⟨n1, hn1⟩ : ∃ k, p.2.1.length = k := ⟨_, rfl⟩
              have HL1 := Lib.hid hn1
              rw [hn1] at hv1
              rw [hv1] at q1
              clear hv1 hn1
              have hHB := HBne.out
              have i1 : (0 : Int) ≤ (i : Int) := by omega
              have i2 : (i : Int) < (ne : Int) := by omega
              have hw1 : IntKind.i64.wrap ((i : Int) + 1) = (i : Int) + 1 := IntWalk.i64_in _ (by omega)
              clear hA hp hHB
              by_cases hb0 : n0 ≤ 70
              · have HT0 := Lib.hid hb0
                have t0 : decide ((70 : Int) < (n0 : Int)) = false := decide_eq_false (by omega)
                by_cases hb1 : n1 ≤ 300
                · have HT1 := Lib.hid hb1
                  have t1 : decide ((300 : Int) < (n1 : Int)) = false := decide_eq_false (by omega)
                  have HNX : Hid (∀ q, q < i + 1 → ∀ p, m.elems[q]? = some p → p.1.1.L.length ≤ 70 ∧ p.2.1.length ≤ 300) := fun q hq p' hp' => by
                    by_cases e : q = i
                    · subst e
                      obtain rfl := Option.some.inj (HP.out.symm.trans hp')
                      exact ⟨HX0 HL0.out HT0.out, HX0 HL1.out HT1.out⟩
                    · exact HALL.out q (by omega) p' hp'
                  clear hb0 hb1
                  go_wp2_with fail
                  go_round
                  case rel => exact ⟨i + 1, by go_num, hlt, HNX.out⟩
                  case measure => simp [intOf]; omega
                · have t1 : decide ((300 : Int) < (n1 : Int)) = true := decide_eq_true (by omega)
                  clear hb0 hb1
                  go_wp2_with fail
                  exact bodyPost_ret (v := .bool false) (by simp [results, Tryz.results43, go_sem]) rfl (fewno HW0.out)
              · have t0 : decide ((70 : Int) < (n0 : Int)) = true := decide_eq_true (by omega)
                clear hb0
                go_wp2_with fail
                exact bodyPost_ret (v := .bool false) (by simp [results, Tryz.results43, go_sem]) rfl (fewno HW0.out)
            · obtain rfl : i = ne := by omega
              have HYne : Hid (∀ p ∈ m.elems, p.1.1.L.length ≤ 70 ∧ p.2.1.length ≤ 300) := fun p hp => by
                obtain ⟨q, hq⟩ := List.getElem?_of_mem hp
                exact HALL.out q (by have := (List.getElem?_eq_some_iff.1 hq).1; rwa [HNne.out] at this) p hq
              clear hlt HALL
              go_wp2_with fail
              go_loop [6] (fun i' => ∃ i : Nat, i' = .int .i64 (i : Int) ∧ i ≤ nd ∧ ∀ q, q < i → ∀ p, m.datas[q]? = some p → p.1.1.L.length ≤ 70 ∧ p.2.1.length ≤ 70000) (fun i' => nd - (intOf i').toNat)
              case atStart => exact ⟨0, by go_num, by omega, fun q hq => absurd hq (by omega)⟩
              case round =>
                obtain ⟨i, rfl, hi, hall⟩ := hrel
                have HALL := Lib.hid hall
                clear hall
                by_cases hlt : i < nd
                · obtain ⟨p, hp⟩ : ∃ p, m.datas[i]? = some p := ⟨_, List.getElem?_eq_getElem (by rw [HNnd.out]; exact hlt)⟩
                  obtain ⟨g, off, rfl, hg, hA, hok⟩ := (HRnd.out.keep HW0.out).at_ hp
                  have HP := Lib.hid hp
                  rw [show (elD.s) = 6 from rfl] at hA
                  have q0 := hA 4 p.1.2 rfl
                  obtain ⟨P0, d0, hv0, _⟩ := id (hok.1.1)
                  obtain ⟨n0, hn0⟩ : ∃ k, p.1.1.L.length = k := ⟨_, rfl⟩
                  have HL0 := Lib.hid hn0
                  rw [hn0] at hv0
                  rw [hv0] at q0
                  clear hv0 hn0
                  have q1 := hA 5 p.2.2 rfl
                  obtain ⟨P1, d1, hv1, _⟩ := id (hok.2.1)
                  obtain ⟨n1, hn1⟩ : ∃ k, p.2.1.length = k := ⟨_, rfl⟩
                  have HL1 := Lib.hid hn1
                  rw [hn1] at hv1
                  rw [hv1] at q1
                  clear hv1 hn1
                  have hHB := HBnd.out
                  have i1 : (0 : Int) ≤ (i : Int) := by omega
                  have i2 : (i : Int) < (nd : Int) := by omega
                  have hw1 : IntKind.i64.wrap ((i : Int) + 1) = (i : Int) + 1 := IntWalk.i64_in _ (by omega)
                  clear hA hp hHB
                  by_cases hb0 : n0 ≤ 70
                  · have HT0 := Lib.hid hb0
                    have t0 : decide ((70 : Int) < (n0 : Int)) = false := decide_eq_false (by omega)
                    by_cases hb1 : n1 ≤ 70000
                    · have HT1 := Lib.hid hb1
                      have t1 : decide ((70000 : Int) < (n1 : Int)) = false := decide_eq_false (by omega)
                      have HNX : Hid (∀ q, q < i + 1 → ∀ p, m.datas[q]? = some p → p.1.1.L.length ≤ 70 ∧ p.2.1.length ≤ 70000) := fun q hq p' hp' => by
                        by_cases e : q = i
                        · subst e
                          obtain rfl := Option.some.inj (HP.out.symm.trans hp')
                          exact ⟨HX0 HL0.out HT0.out, HX0 HL1.out HT1.out⟩
                        · exact HALL.out q (by omega) p' hp'
                      clear hb0 hb1
                      go_wp2_with fail
                      go_round
                      case rel => exact ⟨i + 1, by go_num, hlt, HNX.out⟩
                      case measure => simp [intOf]; omega
                    · have t1 : decide ((70000 : Int) < (n1 : Int)) = true := decide_eq_true (by omega)
                      clear hb0 hb1
                      go_wp2_with fail
                      exact bodyPost_ret (v := .bool false) (by simp [results, Tryz.results43, go_sem]) rfl (fewno HW0.out)
                  · have t0 : decide ((70 : Int) < (n0 : Int)) = true := decide_eq_true (by omega)
                    clear hb0
                    go_wp2_with fail
                    exact bodyPost_ret (v := .bool false) (by simp [results, Tryz.results43, go_sem]) rfl (fewno HW0.out)
                · obtain rfl : i = nd := by omega
                  have HYnd : Hid (∀ p ∈ m.datas, p.1.1.L.length ≤ 70 ∧ p.2.1.length ≤ 70000) := fun p hp => by
                    obtain ⟨q, hq⟩ := List.getElem?_of_mem hp
                    exact HALL.out q (by have := (List.getElem?_eq_some_iff.1 hq).1; rwa [HNnd.out] at this) p hq
                  clear hlt HALL
                  go_wp2_with fail
                  have HYES : Hid (true = true → CodesM m) := fun _ => ⟨HYnc.out, HYng.out, HYne.out, HYnd.out⟩
                  exact bodyPost_ret (v := .bool true) (by simp [results, Tryz.results43, go_sem]) rfl (⟨_, rfl, HYES.out, HW0.out⟩)
end Go.Proofs.YtffegkjlgeblbaaGreatDoor.Mdl
end

section
/- The document's reader of modules, plain: what each of its parts makes of bytes, a place and an error. -/
namespace Go.Proofs.YtffegkjlgeblbaaGreatDoor.Mdl
open Go.RowKit Ints Typ Ins
set_option maxRecDepth 100000
set_option maxHeartbeats 1000000
set_option linter.unusedVariables false
/-- A place, moved on. -/
def nx (a : Nat) (p : Int) : Nat := max a p.toNat
theorem nx_le {a n : Nat} {p : Int} (h : a ≤ n) (hp : p ≤ (n : Int)) : nx a p ≤ n := by unfold nx; omega
/-! Places stay within the bytes. -/
theorem rdl_at {l : List Int} {k n j : Nat} (h : Leb.rdl Leb.fitU 32 (l.drop k) 0 0 = .ok n j) : k + j / 7 ≤ l.length := by
  have h1 := Utf.rdl_len _ _ _ _ _ h
  have h2 := Typ.rdl_one _ _ _ _ _ h
  rw [List.length_drop] at h1
  omega
theorem lm_le (l : List Int) (a : Nat) : (lm l a).2.2.2.1 ≤ (l.length : Int) := by
  unfold lm
  rcases bt_ways l a with ⟨_, h⟩ | ⟨k, hk, hlt, hb⟩
  · rw [if_pos (by omega)]
    simp
  · have e : a = k := by omega
    subst e
    rw [hb, if_neg (by simp), Int.toNat_natCast]
    split
    · simp
    · unfold lm1
      split
      · rename_i n j hr
        have h1 := rdl_at hr
        split
        · show ((a + 1 + j / 7 : Nat) : Int) ≤ _
          omega
        · unfold lm2
          split
          · rename_i m j2 hr2
            have h2 := rdl_at hr2
            show ((a + 1 + j / 7 + j2 / 7 : Nat) : Int) ≤ _
            omega
          · simp
          · simp
      · simp
      · simp
/-- The instruction of nothing. -/
def noIns : Ins := ⟨0, 0, 0, 0, []⟩
def rmanyM (m : Int) (l : List Int) (a : Nat) (e : Int) : Int × Nat × Int := (if rf (decide (m < (ru l a e).1)) (ru l a e).2.2 4 = 0 then (ru l a e).1 else 0, (ru l a e).2.1, rf (decide (m < (ru l a e).1)) (ru l a e).2.2 4)
noncomputable def rnmM (l : List Int) (a : Nat) (e : Int) : List Int × Nat × Int := if e ≠ 0 then ([], a, e) else ((Utf.nm l a).1, nx a (Utf.nm l a).2.1, (Utf.nm l a).2.2)
def rvalM (l : List Int) (a : Nat) (e : Int) : Int × Nat × Int := if e ≠ 0 then (0, a, e) else ((vl l a).1, nx a (vl l a).2.1, (vl l a).2.2)
def rlimM (l : List Int) (a : Nat) (e : Int) : LimT × Nat × Int := if e ≠ 0 then ((0, 0, false), a, e) else (((lm l a).1, (lm l a).2.1, (lm l a).2.2.1), nx a (lm l a).2.2.2.1, (lm l a).2.2.2.2)
def rtabM (l : List Int) (a : Nat) (e : Int) : LimT × Nat × Int := rlimM l (rb l a e).2.1 (rf ((rb l a e).1 != 112) (rb l a e).2.2 3)
def rflagM (m : Int) (l : List Int) (a : Nat) (e : Int) : Int × Nat × Int := ((rb l a e).1, (rb l a e).2.1, rf (decide (m < (rb l a e).1)) (rb l a e).2.2 3)
def rcodeM (l : List Int) (a : Nat) (e : Int) : List Ins × Nat × Int := if e ≠ 0 then ([], a, e) else ((Bod.drd l 4098 a [] []).1, nx a (Bod.drd l 4098 a [] []).2.1, (Bod.drd l 4098 a [] []).2.2)
/-- May it stand in an expression? -/
def isX (op : Int) : Bool := op == 35 || op == 65 || op == 66
def exprE (L : List Ins) (a : Nat) (e : Int) : Ins × Nat × Int := if e ≠ 0 then (noIns, a, e) else if L.length = 1 ∧ isX (L.headD noIns).op = true then (L.headD noIns, a, 0) else (noIns, a, 5)
def rexprM (l : List Int) (a : Nat) (e : Int) : Ins × Nat × Int := exprE (rcodeM l a e).1 (rcodeM l a e).2.1 (rcodeM l a e).2.2
def rzeroM (l : List Int) (a : Nat) (e : Int) : Nat × Int := ((ru l a e).2.1, rf ((ru l a e).1 != 0) (ru l a e).2.2 5)
/-- An import behind its names and its kind. -/
def impK (s t : ByteArray) (k : Int) (l : List Int) (a : Nat) (e : Int) : ImpT × Nat × Int :=
  if k = 0 then (⟨s, t, 0, (ru l a e).1, (0, 0, false), 0, false⟩, (ru l a e).2.1, (ru l a e).2.2)
  else if k = 1 then (⟨s, t, 1, 0, (rtabM l a e).1, 0, false⟩, (rtabM l a e).2.1, (rtabM l a e).2.2)
  else if k = 2 then (⟨s, t, 2, 0, (rlimM l a e).1, 0, false⟩, (rlimM l a e).2.1, (rlimM l a e).2.2)
  else if k = 3 then (⟨s, t, 3, 0, (0, 0, false), (rvalM l a e).1, (rflagM 1 l (rvalM l a e).2.1 (rvalM l a e).2.2).1 == 1⟩, (rflagM 1 l (rvalM l a e).2.1 (rvalM l a e).2.2).2.1, (rflagM 1 l (rvalM l a e).2.1 (rvalM l a e).2.2).2.2)
  else (⟨s, t, k, 0, (0, 0, false), 0, false⟩, a, e)
noncomputable def impNm (s : ByteArray) (l : List Int) (n : List Int × Nat × Int) : ImpT × Nat × Int := impK s (strOfNums n.1) (rflagM 3 l n.2.1 n.2.2).1 l (rflagM 3 l n.2.1 n.2.2).2.1 (rflagM 3 l n.2.1 n.2.2).2.2
noncomputable def rimpM (l : List Int) (a : Nat) (e : Int) : ImpT × Nat × Int := impNm (strOfNums (rnmM l a e).1) l (rnmM l (rnmM l a e).2.1 (rnmM l a e).2.2)
def bytesE (l : List Int) (n : Int) (a : Nat) (e : Int) : List Int × Nat × Int := if e ≠ 0 then ([], a, e) else ((l.drop a).take n.toNat, a + n.toNat, 0)
def rbytesM (l : List Int) (a : Nat) (e : Int) : List Int × Nat × Int := bytesE l (ru l a e).1 (ru l a e).2.1 (rf (decide ((l.length : Int) - ((ru l a e).2.1 : Int) < (ru l a e).1)) (ru l a e).2.2 2)
def rleftM (l : List Int) (a : Nat) (e : Int) : Int := rf (decide ((a : Int) < (l.length : Int))) e 3
/-- The locals of a code: so many runs. -/
def locsM (l : List Int) : Nat → Nat → Int → List Int → List Int × Nat × Int
  | 0, a, e, out => (out, a, e)
  | n + 1, a, e, out => if e ≠ 0 then (out, a, e) else
    locsM l n (rvalM l (ru l a e).2.1 (ru l a e).2.2).2.1 (rf (decide (64 - (out.length : Int) < (ru l a e).1)) (rvalM l (ru l a e).2.1 (ru l a e).2.2).2.2 4)
      (if rf (decide (64 - (out.length : Int) < (ru l a e).1)) (rvalM l (ru l a e).2.1 (ru l a e).2.2).2.2 4 = 0 then out ++ List.replicate (ru l a e).1.toNat (rvalM l (ru l a e).2.1 (ru l a e).2.2).1 else out)
def codeE (b L : List Int) (a : Nat) (e : Int) (n : Nat) : (List Int × List Ins) × Nat × Int := ((L, (rcodeM b a e).1), n, rleftM b (rcodeM b a e).2.1 (rcodeM b a e).2.2)
def funE (b : List Int) (n : Nat) (x : Int × Nat × Int) : (List Int × List Ins) × Nat × Int := codeE b (locsM b x.1.toNat x.2.1 x.2.2 []).1 (locsM b x.1.toNat x.2.1 x.2.2 []).2.1 (locsM b x.1.toNat x.2.1 x.2.2 []).2.2 n
def rfuncM (l : List Int) (a : Nat) (e : Int) : (List Int × List Ins) × Nat × Int := if (rbytesM l a e).2.2 ≠ 0 then (([], []), (rbytesM l a e).2.1, (rbytesM l a e).2.2) else funE (rbytesM l a e).1 (rbytesM l a e).2.1 (rmanyM 64 (rbytesM l a e).1 0 0)
def numsM (l : List Int) : Nat → Nat → Int → List Int → List Int × Nat × Int
  | 0, a, e, out => (out, a, e)
  | n + 1, a, e, out => numsM l n (ru l a e).2.1 (ru l a e).2.2 (out ++ [(ru l a e).1])
def rnumsM (m : Int) (l : List Int) (a : Nat) (e : Int) : List Int × Nat × Int := numsM l (rmanyM m l a e).1.toNat (rmanyM m l a e).2.1 (rmanyM m l a e).2.2 []
/-- So many of a list's things, while there is no error. -/
def loopM {α : Type} (f : Nat → Int → α × Nat × Int) : Nat → Nat → Int → List α → List α × Nat × Int
  | 0, a, e, out => (out, a, e)
  | n + 1, a, e, out => if e ≠ 0 then (out, a, e) else loopM f n (f a e).2.1 (f a e).2.2 (out ++ [(f a e).1])
def manyM {α : Type} (m : Int) (f : List Int → Nat → Int → α × Nat × Int) (l : List Int) (a : Nat) (e : Int) : List α × Nat × Int := loopM (f l) (rmanyM m l a e).1.toNat (rmanyM m l a e).2.1 (rmanyM m l a e).2.2 []
def rtypM (l : List Int) (a : Nat) (_ : Int) : (List Int × List Int) × Nat × Int := (((fn l a).1, (fn l a).2.1), nx a (fn l a).2.2.1, (fn l a).2.2.2)
def glbE (v : Int) (l : List Int) (f : Int × Nat × Int) : (Int × Bool × Ins) × Nat × Int := ((v, f.1 == 1, (rexprM l f.2.1 f.2.2).1), (rexprM l f.2.1 f.2.2).2.1, (rexprM l f.2.1 f.2.2).2.2)
def rglbM (l : List Int) (a : Nat) (e : Int) : (Int × Bool × Ins) × Nat × Int := glbE (rvalM l a e).1 l (rflagM 1 l (rvalM l a e).2.1 (rvalM l a e).2.2)
noncomputable def expE (s : ByteArray) (l : List Int) (k : Int × Nat × Int) : ExpT × Nat × Int := ((s, k.1, (ru l k.2.1 k.2.2).1), (ru l k.2.1 k.2.2).2.1, (ru l k.2.1 k.2.2).2.2)
noncomputable def rexpM (l : List Int) (a : Nat) (e : Int) : ExpT × Nat × Int := expE (strOfNums (rnmM l a e).1) l (rflagM 3 l (rnmM l a e).2.1 (rnmM l a e).2.2)
def elmE (l : List Int) (x : Ins × Nat × Int) : (Ins × List Int) × Nat × Int := ((x.1, (rnumsM 256 l x.2.1 x.2.2).1), (rnumsM 256 l x.2.1 x.2.2).2.1, (rnumsM 256 l x.2.1 x.2.2).2.2)
def relmM (l : List Int) (a : Nat) (e : Int) : (Ins × List Int) × Nat × Int := elmE l (rexprM l (rzeroM l a e).1 (rzeroM l a e).2)
def datE (l : List Int) (x : Ins × Nat × Int) : (Ins × List Int) × Nat × Int := ((x.1, (rbytesM l x.2.1 x.2.2).1), (rbytesM l x.2.1 x.2.2).2.1, (rbytesM l x.2.1 x.2.2).2.2)
def rdatM (l : List Int) (a : Nat) (e : Int) : (Ins × List Int) × Nat × Int := datE l (rexprM l (rzeroM l a e).1 (rzeroM l a e).2)
/-- A module, plain. -/
structure PMod where
  types : List (List Int × List Int)
  imps : List ImpT
  funcs : List Int
  tabs : List LimT
  mems : List LimT
  globs : List (Int × Bool × Ins)
  exps : List ExpT
  start : Int
  elems : List (Ins × List Int)
  codes : List (List Int × List Ins)
  datas : List (Ins × List Int)
def noMod (s : Int) : PMod := ⟨[], [], [], [], [], [], [], s, [], [], []⟩
noncomputable def decEnd (x : PMod × Int) : PMod × Int := if x.2 ≠ 0 then x else if x.1.codes.length ≠ x.1.funcs.length then (noMod 0, 3) else x
end Go.Proofs.YtffegkjlgeblbaaGreatDoor.Mdl
end
