/- ModFewC. -/
import Derived.Test.YtffegkjlgeblbaaGreatDoorPkModSFElem
import Derived.Test.YtffegkjlgeblbaaGreatDoorPkBodTurn
/- Few parts, and short ones, by the document: walked. -/
namespace Go.Proofs.YtffegkjlgeblbaaGreatDoor.Mdl
open Go.RowKit Ints Typ Ins
set_option maxRecDepth 100000
set_option maxHeartbeats 4000000
set_option linter.unusedVariables false
def CodesM (m : ModT) : Prop := (∀ p ∈ m.codes, p.1.1.length ≤ 100 ∧ Bod.FewB p.2.1 120) ∧ (∀ p ∈ m.globs, p.2.2.1.L.length ≤ 70) ∧ (∀ p ∈ m.elems, p.1.1.L.length ≤ 70 ∧ p.2.1.length ≤ 300) ∧ (∀ p ∈ m.datas, p.1.1.L.length ≤ 70 ∧ p.2.1.length ≤ 70000)
def FewM (m : ModT) : Prop := (m.types.length ≤ 70 ∧ m.imps.length ≤ 70 ∧ m.funcs.length ≤ 130 ∧ m.tabs.length ≤ 40 ∧ m.mems.length ≤ 40 ∧ m.globs.length ≤ 70 ∧ m.exps.length ≤ 70 ∧ m.elems.length ≤ 40 ∧ m.codes.length ≤ 30 ∧ m.datas.length ≤ 40) ∧
  (∀ p ∈ m.types, p.1.1.length ≤ 100 ∧ p.2.1.length ≤ 100) ∧ (∀ p ∈ m.imps, p.md.size ≤ 100 ∧ p.nm.size ≤ 100) ∧ (∀ p ∈ m.exps, p.1.size ≤ 100) ∧ CodesM m
theorem HX1 {a b : ByteArray} {c : Nat} (h : a = b) (k : b.size ≤ c) : a.size ≤ c := h ▸ k
theorem HX0 {a b c : Nat} (h : a = b) (k : b ≤ c) : a ≤ c := h ▸ k
def FewTold (P : Prop) (w : World) (e : Ending) (w' : World) : Prop := ∃ b : Bool, e = .returned (.bool b) ∧ (b = true → P) ∧ Below w.heap.size w w'
theorem fewno {P : Prop} {w w' : World} (h : Below w.heap.size w w') : FewTold P w (.returned (.bool false)) w' := ⟨_, rfl, fun h => (by cases h), h⟩
theorem codes_any {v : Value} {m : ModT} {w : World} (h : ModAt w v m) : Calls Tryz.prog 43 #[v] w (FewTold (CodesM m) w) := by
  obtain ⟨vt, vi, vf, va, vm, vg, vx, ve, vc, vd, rfl, r1, r2, r3, r4, r5, r6, r7, r8, r9, r10, r11⟩ := h
  obtain ⟨At1, ct, rfl⟩ := row_len r1
  obtain ⟨Ai, ci, rfl⟩ := row_len r2
  obtain ⟨Af, cf, rfl, _⟩ := id r3
  obtain ⟨Aa, ca, rfl⟩ := row_len r4
  obtain ⟨Am, cm, rfl⟩ := row_len r5
  obtain ⟨Ag, cg, rfl⟩ := row_len r6
  obtain ⟨Ax, cx, rfl⟩ := row_len r7
  obtain ⟨Ae, ce, rfl⟩ := row_len r9
  obtain ⟨Ac, cc, rfl⟩ := row_len r10
  obtain ⟨Ad, cd, rfl⟩ := row_len r11
  obtain ⟨nt, hnt⟩ : ∃ n, m.types.length = n := ⟨_, rfl⟩
  obtain ⟨ni, hni⟩ : ∃ n, m.imps.length = n := ⟨_, rfl⟩
  obtain ⟨nf, hnf⟩ : ∃ n, m.funcs.length = n := ⟨_, rfl⟩
  obtain ⟨na, hna⟩ : ∃ n, m.tabs.length = n := ⟨_, rfl⟩
  obtain ⟨nm, hnm⟩ : ∃ n, m.mems.length = n := ⟨_, rfl⟩
  obtain ⟨ng, hng⟩ : ∃ n, m.globs.length = n := ⟨_, rfl⟩
  obtain ⟨nx, hnx⟩ : ∃ n, m.exps.length = n := ⟨_, rfl⟩
  obtain ⟨ne, hne⟩ : ∃ n, m.elems.length = n := ⟨_, rfl⟩
  obtain ⟨nc, hnc⟩ : ∃ n, m.codes.length = n := ⟨_, rfl⟩
  obtain ⟨nd, hnd⟩ : ∃ n, m.datas.length = n := ⟨_, rfl⟩
  rw [hnt] at r1  ⊢
  rw [hni] at r2  ⊢
  rw [hnf] at r3  ⊢
  rw [hna] at r4  ⊢
  rw [hnm] at r5  ⊢
  rw [hng] at r6  ⊢
  rw [hnx] at r7  ⊢
  rw [hne] at r9  ⊢
  rw [hnc] at r10  ⊢
  rw [hnd] at r11  ⊢
  obtain ⟨st, hst⟩ : ∃ s, m.start = s := ⟨_, rfl⟩
  rw [hst]
  have HNnt := Lib.hid hnt
  have HNni := Lib.hid hni
  have HNnf := Lib.hid hnf
  have HNna := Lib.hid hna
  have HNnm := Lib.hid hnm
  have HNng := Lib.hid hng
  have HRng := Lib.hid r6
  have HBng : Hid (ng ≤ 9223372036854775807) := Lib.hid (by have := r6.form; obtain ⟨A9, c9, e9, l9, m9⟩ := this; injection e9 with _ e1 e2; omega)
  have HNnx := Lib.hid hnx
  have HNne := Lib.hid hne
  have HRne := Lib.hid r9
  have HBne : Hid (ne ≤ 9223372036854775807) := Lib.hid (by have := r9.form; obtain ⟨A9, c9, e9, l9, m9⟩ := this; injection e9 with _ e1 e2; omega)
  have HNnc := Lib.hid hnc
  have HRnc := Lib.hid r10
  have HBnc : Hid (nc ≤ 9223372036854775807) := Lib.hid (by have := r10.form; obtain ⟨A9, c9, e9, l9, m9⟩ := this; injection e9 with _ e1 e2; omega)
  have HNnd := Lib.hid hnd
  have HRnd := Lib.hid r11
  have HBnd : Hid (nd ≤ 9223372036854775807) := Lib.hid (by have := r11.form; obtain ⟨A9, c9, e9, l9, m9⟩ := this; injection e9 with _ e1 e2; omega)
  have HW0 := Lib.hid ((Below.refl w.heap.size w).alloc (Nat.le_refl _) (.cells #[.slice At1 nt ct, .slice Ai ni ci, .slice Af nf cf, .slice Aa na ca, .slice Am nm cm, .slice Ag ng cg, .slice Ax nx cx, .int .i64 st, .slice Ae ne ce, .slice Ac nc cc, .slice Ad nd cd] 34))
  clear r1 r2 r3 r4 r5 r6 r7 r8 r9 r10 r11 hnt hni hnf hna hnm hng hnx hne hnc hnd hst
  go_enter Tryz.func43, Tryz.ntmps43
  go_wp2_with fail
  go_loop [3] (fun i' => ∃ i : Nat, i' = .int .i64 (i : Int) ∧ i ≤ nc ∧ ∀ q, q < i → ∀ p, m.codes[q]? = some p → p.1.1.length ≤ 100 ∧ Bod.FewB p.2.1 120) (fun i' => nc - (intOf i').toNat)
  case atStart => exact ⟨0, by go_num, by omega, fun q hq => absurd hq (by omega)⟩
  case round =>
    obtain ⟨i, rfl, hi, hall⟩ := hrel
    have HALL := Lib.hid hall
    clear hall
    by_cases hlt : i < nc
    · obtain ⟨p, hp⟩ : ∃ p, m.codes[i]? = some p := ⟨_, List.getElem?_eq_getElem (by rw [HNnc.out]; exact hlt)⟩
      obtain ⟨g, off, rfl, hg, hA, hok⟩ := (HRnc.out.keep HW0.out).at_ hp
      have HP := Lib.hid hp
      rw [show (elC.s) = 2 from rfl] at hA
      have q0 := hA 0 p.1.2 rfl
      rw [Nat.add_zero] at q0
      obtain ⟨P0, d0, hv0, _⟩ := id (hok.1.1)
      obtain ⟨n0, hn0⟩ : ∃ k, p.1.1.length = k := ⟨_, rfl⟩
      have HL0 := Lib.hid hn0
      rw [hn0] at hv0
      rw [hv0] at q0
      clear hv0 hn0
      have q9 := hA 1 p.2.2 rfl
      have hrow := hok.2
      obtain ⟨⟨PB, dB, hvB, _⟩, _⟩ := id hrow
      obtain ⟨nB, hnB⟩ : ∃ k, p.2.1.length = k := ⟨_, rfl⟩
      have HBN := Lib.hid hnB
      rw [hnB] at hvB
      rw [hvB] at q9 hrow
      have HBR := Lib.hid hrow
      clear hvB hnB hrow
      have hHB := HBnc.out
      have i1 : (0 : Int) ≤ (i : Int) := by omega
      have i2 : (i : Int) < (nc : Int) := by omega
      have hw1 : IntKind.i64.wrap ((i : Int) + 1) = (i : Int) + 1 := IntWalk.i64_in _ (by omega)
      clear hA hp hHB
      by_cases hb0 : n0 ≤ 100
      · have HT0 := Lib.hid hb0
        have t0 : decide ((100 : Int) < (n0 : Int)) = false := decide_eq_false (by omega)
        go_wp2_with fail
        refine (Bod.few_any 120 HBN.out (HBR.out)).mono ?_
        rintro en w1 ⟨⟨b, rfl, hb⟩, rfl⟩
        have HCL := Lib.hid hb
        clear hb
        cases b with
        | false =>
          go_wp2_with fail
          exact bodyPost_ret (v := .bool false) (by simp [results, Tryz.results43, go_sem]) rfl (fewno HW0.out)
        | true =>
          have HNX : Hid (∀ q, q < i + 1 → ∀ p, m.codes[q]? = some p → p.1.1.length ≤ 100 ∧ Bod.FewB p.2.1 120) := fun q hq p' hp' => by
            by_cases e : q = i
            · subst e
              obtain rfl := Option.some.inj (HP.out.symm.trans hp')
              exact ⟨HX0 HL0.out HT0.out, HCL.out.1 rfl⟩
            · exact HALL.out q (by omega) p' hp'
          clear hb0
          go_wp2_with fail
          go_round
          case rel => exact ⟨i + 1, by go_num, hlt, HNX.out⟩
          case measure => simp [intOf]; omega
      · have t0 : decide ((100 : Int) < (n0 : Int)) = true := decide_eq_true (by omega)
        clear hb0
        go_wp2_with fail
        exact bodyPost_ret (v := .bool false) (by simp [results, Tryz.results43, go_sem]) rfl (fewno HW0.out)
    · obtain rfl : i = nc := by omega
      have HYnc : Hid (∀ p ∈ m.codes, p.1.1.length ≤ 100 ∧ Bod.FewB p.2.1 120) := fun p hp => by
        obtain ⟨q, hq⟩ := List.getElem?_of_mem hp
        exact HALL.out q (by have := (List.getElem?_eq_some_iff.1 hq).1; rwa [HNnc.out] at this) p hq
      clear hlt HALL
      go_wp2_with fail
      go_loop [4] (fun i' => ∃ i : Nat, i' = .int .i64 (i : Int) ∧ i ≤ ng ∧ ∀ q, q < i → ∀ p, m.globs[q]? = some p → p.2.2.1.L.length ≤ 70) (fun i' => ng - (intOf i').toNat)
      case atStart => exact ⟨0, by go_num, by omega, fun q hq => absurd hq (by omega)⟩
      case round =>
        obtain ⟨i, rfl, hi, hall⟩ := hrel
        have HALL := Lib.hid hall
        clear hall
        by_cases hlt : i < ng
        · obtain ⟨p, hp⟩ : ∃ p, m.globs[i]? = some p := ⟨_, List.getElem?_eq_getElem (by rw [HNng.out]; exact hlt)⟩
          obtain ⟨g, off, rfl, hg, hA, hok⟩ := (HRng.out.keep HW0.out).at_ hp
          have HP := Lib.hid hp
          rw [show (elG.s) = 7 from rfl] at hA
          have q0 := hA 6 p.2.2.2 rfl
          obtain ⟨P0, d0, hv0, _⟩ := id (hok.2.1)
          obtain ⟨n0, hn0⟩ : ∃ k, p.2.2.1.L.length = k := ⟨_, rfl⟩
          have HL0 := Lib.hid hn0
          rw [hn0] at hv0
          rw [hv0] at q0
          clear hv0 hn0
          have hHB := HBng.out
          have i1 : (0 : Int) ≤ (i : Int) := by omega
          have i2 : (i : Int) < (ng : Int) := by omega
          have hw1 : IntKind.i64.wrap ((i : Int) + 1) = (i : Int) + 1 := IntWalk.i64_in _ (by omega)
          clear hA hp hHB
          by_cases hb0 : n0 ≤ 70
          · have HT0 := Lib.hid hb0
            have t0 : decide ((70 : Int) < (n0 : Int)) = false := decide_eq_false (by omega)
            have HNX : Hid (∀ q, q < i + 1 → ∀ p, m.globs[q]? = some p → p.2.2.1.L.length ≤ 70) := fun q hq p' hp' => by
              by_cases e : q = i
              · subst e
                obtain rfl := Option.some.inj (HP.out.symm.trans hp')
                exact HX0 HL0.out HT0.out
              · exact HALL.out q (by omega) p' hp'
            clear hb0
            go_wp2_with fail
            go_round
            case rel => exact ⟨i + 1, by go_num, hlt, HNX.out⟩
            case measure => simp [intOf]; omega
          · have t0 : decide ((70 : Int) < (n0 : Int)) = true := decide_eq_true (by omega)
            clear hb0
            go_wp2_with fail
            exact bodyPost_ret (v := .bool false) (by simp [results, Tryz.results43, go_sem]) rfl (fewno HW0.out)
        · obtain rfl : i = ng := by omega
          have HYng : Hid (∀ p ∈ m.globs, p.2.2.1.L.length ≤ 70) := fun p hp => by
            obtain ⟨q, hq⟩ := List.getElem?_of_mem hp
            exact HALL.out q (by have := (List.getElem?_eq_some_iff.1 hq).1; rwa [HNng.out] at this) p hq
          clear hlt HALL
          go_wp2_with fail
          go_loop [5] (fun i' => ∃ i : Nat, i' = .int .i64 (i : Int) ∧ i ≤ ne ∧ ∀ q, q < i → ∀ p, m.elems[q]? = some p → p.1.1.L.length ≤ 70 ∧ p.2.1.length ≤ 300) (fun i' => ne - (intOf i').toNat)
          case atStart => exact ⟨0, by go_num, by omega, fun q hq => absurd hq (by omega)⟩
          case round =>
            obtain ⟨i, rfl, hi, hall⟩ := hrel
            have HALL := Lib.hid hall
            clear hall
            by_cases hlt : i < ne
            · obtain ⟨p, hp⟩ : ∃ p, m.elems[i]? = some p := ⟨_, List.getElem?_eq_getElem (by rw [HNne.out]; exact hlt)⟩
              obtain ⟨g, off, rfl, hg, hA, hok⟩ := (HRne.out.keep HW0.out).at_ hp
              have HP := Lib.hid hp
              rw [show (elE.s) = 6 from rfl] at hA
              have q0 := hA 4 p.1.2 rfl
              obtain ⟨P0, d0, hv0, _⟩ := id (hok.1.1)
              obtain ⟨n0, hn0⟩ : ∃ k, p.1.1.L.length = k := ⟨_, rfl⟩
              have HL0 := Lib.hid hn0
              rw [hn0] at hv0
              rw [hv0] at q0
              clear hv0 hn0
              have q1 := hA 5 p.2.2 rfl
              obtain ⟨P1, d1, hv1, _⟩ := id (hok.2)
              obtain ⟨n1, hn1⟩ : ∃ k, p.2.1.length = k := ⟨_, rfl⟩
              have HL1 := Lib.hid hn1
              rw [hn1] at hv1
              rw [hv1] at q1
              clear hv1 hn1
              have hHB := HBne.out
              have i1 : (0 : Int) ≤ (i : Int) := by omega
              have i2 : (i : Int) < (ne : Int) := by omega
              have hw1 : IntKind.i64.wrap ((i : Int) + 1) = (i : Int) + 1 := IntWalk.i64_in _ (by omega)
              clear hA hp hHB
              by_cases hb0 : n0 ≤ 70
              · have HT0 := Lib.hid hb0
                have t0 : decide ((70 : Int) < (n0 : Int)) = false := decide_eq_false (by omega)
                by_cases hb1 : n1 ≤ 300
                · have HT1 := Lib.hid hb1
                  have t1 : decide ((300 : Int) < (n1 : Int)) = false := decide_eq_false (by omega)
                  have HNX : Hid (∀ q, q < i + 1 → ∀ p, m.elems[q]? = some p → p.1.1.L.length ≤ 70 ∧ p.2.1.length ≤ 300) := fun q hq p' hp' => by
                    by_cases e : q = i
                    · subst e
                      obtain rfl := Option.some.inj (HP.out.symm.trans hp')
                      exact ⟨HX0 HL0.out HT0.out, HX0 HL1.out HT1.out⟩
                    · exact HALL.out q (by omega) p' hp'
                  clear hb0 hb1
                  go_wp2_with fail
                  go_round
                  case rel => exact ⟨i + 1, by go_num, hlt, HNX.out⟩
                  case measure => simp [intOf]; omega
                · have t1 : decide ((300 : Int) < (n1 : Int)) = true := decide_eq_true (by omega)
                  clear hb0 hb1
                  go_wp2_with fail
                  exact bodyPost_ret (v := .bool false) (by simp [results, Tryz.results43, go_sem]) rfl (fewno HW0.out)
              · have t0 : decide ((70 : Int) < (n0 : Int)) = true := decide_eq_true (by omega)
                clear hb0
                go_wp2_with fail
                exact bodyPost_ret (v := .bool false) (by simp [results, Tryz.results43, go_sem]) rfl (fewno HW0.out)
            · obtain rfl : i = ne := by omega
              have HYne : Hid (∀ p ∈ m.elems, p.1.1.L.length ≤ 70 ∧ p.2.1.length ≤ 300) := fun p hp => by
                obtain ⟨q, hq⟩ := List.getElem?_of_mem hp
                exact HALL.out q (by have := (List.getElem?_eq_some_iff.1 hq).1; rwa [HNne.out] at this) p hq
              clear hlt HALL
              go_wp2_with fail
              go_loop [6] (fun i' => ∃ i : Nat, i' = .int .i64 (i : Int) ∧ i ≤ nd ∧ ∀ q, q < i → ∀ p, m.datas[q]? = some p → p.1.1.L.length ≤ 70 ∧ p.2.1.length ≤ 70000) (fun i' => nd - (intOf i').toNat)
              case atStart => exact ⟨0, by go_num, by omega, fun q hq => absurd hq (by omega)⟩
              case round =>
                obtain ⟨i, rfl, hi, hall⟩ := hrel
                have HALL := Lib.hid hall
                clear hall
                by_cases hlt : i < nd
                · obtain ⟨p, hp⟩ : ∃ p, m.datas[i]? = some p := ⟨_, List.getElem?_eq_getElem (by rw [HNnd.out]; exact hlt)⟩
                  obtain ⟨g, off, rfl, hg, hA, hok⟩ := (HRnd.out.keep HW0.out).at_ hp
                  have HP := Lib.hid hp
                  rw [show (elD.s) = 6 from rfl] at hA
                  have q0 := hA 4 p.1.2 rfl
                  obtain ⟨P0, d0, hv0, _⟩ := id (hok.1.1)
                  obtain ⟨n0, hn0⟩ : ∃ k, p.1.1.L.length = k := ⟨_, rfl⟩
                  have HL0 := Lib.hid hn0
                  rw [hn0] at hv0
                  rw [hv0] at q0
                  clear hv0 hn0
                  have q1 := hA 5 p.2.2 rfl
                  obtain ⟨P1, d1, hv1, _⟩ := id (hok.2.1)
                  obtain ⟨n1, hn1⟩ : ∃ k, p.2.1.length = k := ⟨_, rfl⟩
                  have HL1 := Lib.hid hn1
                  rw [hn1] at hv1
                  rw [hv1] at q1
                  clear hv1 hn1
                  have hHB := HBnd.out
                  have i1 : (0 : Int) ≤ (i : Int) := by omega
                  have i2 : (i : Int) < (nd : Int) := by omega
                  have hw1 : IntKind.i64.wrap ((i : Int) + 1) = (i : Int) + 1 := IntWalk.i64_in _ (by omega)
                  clear hA hp hHB
                  by_cases hb0 : n0 ≤ 70
                  · have HT0 := Lib.hid hb0
                    have t0 : decide ((70 : Int) < (n0 : Int)) = false := decide_eq_false (by omega)
                    by_cases hb1 : n1 ≤ 70000
                    · have HT1 := Lib.hid hb1
                      have t1 : decide ((70000 : Int) < (n1 : Int)) = false := decide_eq_false (by omega)
                      have HNX : Hid (∀ q, q < i + 1 → ∀ p, m.datas[q]? = some p → p.1.1.L.length ≤ 70 ∧ p.2.1.length ≤ 70000) := fun q hq p' hp' => by
                        by_cases e : q = i
                        · subst e
                          obtain rfl := Option.some.inj (HP.out.symm.trans hp')
                          exact ⟨HX0 HL0.out HT0.out, HX0 HL1.out HT1.out⟩
                        · exact HALL.out q (by omega) p' hp'
                      clear hb0 hb1
                      go_wp2_with fail
                      go_round
                      case rel => exact ⟨i + 1, by go_num, hlt, HNX.out⟩
                      case measure => simp [intOf]; omega
                    · have t1 : decide ((70000 : Int) < (n1 : Int)) = true := decide_eq_true (by omega)
                      clear hb0 hb1
                      go_wp2_with fail
                      exact bodyPost_ret (v := .bool false) (by simp [results, Tryz.results43, go_sem]) rfl (fewno HW0.out)
                  · have t0 : decide ((70 : Int) < (n0 : Int)) = true := decide_eq_true (by omega)
                    clear hb0
                    go_wp2_with fail
                    exact bodyPost_ret (v := .bool false) (by simp [results, Tryz.results43, go_sem]) rfl (fewno HW0.out)
                · obtain rfl : i = nd := by omega
                  have HYnd : Hid (∀ p ∈ m.datas, p.1.1.L.length ≤ 70 ∧ p.2.1.length ≤ 70000) := fun p hp => by
                    obtain ⟨q, hq⟩ := List.getElem?_of_mem hp
                    exact HALL.out q (by have := (List.getElem?_eq_some_iff.1 hq).1; rwa [HNnd.out] at this) p hq
                  clear hlt HALL
                  go_wp2_with fail
                  have HYES : Hid (true = true → CodesM m) := fun _ => ⟨HYnc.out, HYng.out, HYne.out, HYnd.out⟩
                  exact bodyPost_ret (v := .bool true) (by simp [results, Tryz.results43, go_sem]) rfl (⟨_, rfl, HYES.out, HW0.out⟩)
end Go.Proofs.YtffegkjlgeblbaaGreatDoor.Mdl
