/- May instructions be, by the program: walked. -/
import Derived.Test.YtdmidagcdhhlhaaDoorBodNesteds
import Derived.Test.YtdmidagcdhhlhaaDoorInsPSanes
import Derived.Test.YtdmidagcdhhlhaaDoorBodTgts
namespace Go.Proofs.YtdmidagcdhhlhaaDoor.Bod
open Go.RowKit Ints Typ Ins
set_option maxRecDepth 100000
set_option maxHeartbeats 2000000
set_option linter.unusedVariables false
theorem toodeep_any (d : Int) (w : World) : Calls Tryd.prog 33 #[.int .i64 d] w fun e w' => e = .returned (.bool (decide (32 < d))) ∧ w' = w := by
  go_enter Tryd.func33, Tryd.ntmps33
  go_wp2_with fail
  go_ret
  exact ⟨rfl, rfl⟩
theorem maynot_any {x : Ins} {o : Value} {w : World} (hx : SlI w o x.L) (hu : u64R x.K) (hT : KTab w) : Calls Tryd.prog 43 #[iv x o] w fun e w' => e = .returned (.bool (!saneI x)) ∧ Below w.heap.size w w' := by
  obtain ⟨PL, cL, hpo, _⟩ := id hx
  obtain ⟨nL, hnL⟩ : ∃ nL, x.L.length = nL := ⟨_, rfl⟩
  rw [hnL] at hpo
  subst hpo
  have HX := Lib.hid hx
  have HT := Lib.hid hT
  have HU := Lib.hid hu
  clear hx hT hnL hu
  unfold iv
  go_enter Tryd.func43, Tryd.ntmps43
  go_wp2_with fail
  have hb := (Below.refl w.heap.size w).alloc (Nat.le_refl _) (.cells #[.int .i64 x.op, .int .i64 x.A, .int .i64 x.B, .int .u64 x.K, .slice PL nL cL] 50)
  refine (psane_any (HX.out.keep hb) HU.out (HT.out.keep hb)).mono ?_
  rintro e w1 ⟨rfl, hb1⟩
  have HB := Lib.hid (hb.trans (hb1.mono hb.size))
  clear hb hb1
  go_wp2_with fail
  exact bodyPost_ret (v := .bool (!saneI x)) (by simp [results, Tryd.results43, go_sem]) rfl ⟨rfl, HB.out⟩
theorem idxI_any {L : List Int} {P : Option Addr} {n c : Nat} {w : World} (hn : L.length = n) (hx : SlI w (.slice P n c) L) :
    Calls Tryd.prog 61 #[.slice P n c, .func (.func 33) #[] #[]] w fun e w' => (∃ r : Int, e = .returned (.int .i64 r) ∧ (0 ≤ r ↔ ∃ x ∈ L, 32 < x)) ∧ Below w.heap.size w w' := by
  have hrun : ∀ args W, (callFunc 33 args).run Tryd.prog W = .ok (.enter 33 args) W := fun args W => Stab.run_enter Tryd.func33 (by kernel_rfl) rfl args W
  have N1 := Lib.hid hn
  have HX := Lib.hid hx
  clear hn hx
  go_enter Tryd.func61, Tryd.ntmps61
  go_wp2_with fail
  go_loopw [8] (fun j' wr => ∃ k : Nat, j' = .int .i64 (k : Int) ∧ k ≤ n ∧ (∀ i, i < k → ¬ 32 < L.getD i 0) ∧ wr = w) (fun j' _ => n - (intOf j').toNat)
  case atStart => exact ⟨0, by go_num, Nat.zero_le _, fun i hi => absurd hi (by omega), rfl⟩
  case round =>
    obtain ⟨k, rfl, hk, ht, rfl⟩ := hrel
    have HT := Lib.hid ht
    clear ht
    have hbig := HX.out.len_le
    rw [N1.out] at hbig
    by_cases hlt : k < n
    · obtain ⟨g1, p1, rfl, hc1⟩ := HX.out.at_ (j := k) (by rw [N1.out]; exact hlt)
      have hin1 : (0 : Int) ≤ (k : Int) := by omega
      have hin2 : (k : Int) < (n : Int) := by omega
      have hw1 : IntKind.i64.wrap ((k : Int) + 1) = (k : Int) + 1 := IntWalk.i64_in _ (by omega)
      obtain ⟨u, hu⟩ : ∃ u, L.getD k 0 = u := ⟨_, rfl⟩
      rw [hu] at hc1
      have HU := Lib.hid hu
      clear hu
      cases hq : decide (32 < u) with
      | true =>
        have HQ : Hid (0 ≤ (k : Int) ↔ ∃ x ∈ L, 32 < x) := ⟨fun _ => ⟨u, by rw [← HU.out]; exact getD_mem 0 (by rw [N1.out]; exact hlt), of_decide_eq_true hq⟩, fun _ => by omega⟩
        go_wp2_with fail
        refine (toodeep_any u wr).mono ?_
        rintro e w1 ⟨rfl, rfl⟩
        go_wp2_with fail
        exact bodyPost_ret (v := .int .i64 (k : Int)) (by simp [results, Tryd.results61, go_sem]) rfl ⟨⟨_, rfl, HQ.out⟩, Below.refl _ _⟩
      | false =>
        have HQ : Hid (∀ i, i < k + 1 → ¬ 32 < L.getD i 0) := fun i hi => by
          by_cases e : i = k
          · subst e; rw [HU.out]; exact of_decide_eq_false hq
          · exact HT.out i (by omega)
        go_wp2_with fail
        refine (toodeep_any u wr).mono ?_
        rintro e w1 ⟨rfl, rfl⟩
        go_wp2_with fail
        go_roundw
        case rel => exact ⟨k + 1, by go_num, hlt, (fun i hi => by have := HQ.out i hi; omega), by first | rfl | trivial⟩
        case measure => simp [intOf]; omega
    · obtain rfl : k = n := by omega
      have HQ : Hid (0 ≤ (-1 : Int) ↔ ∃ x ∈ L, 32 < x) := ⟨fun h => absurd h (by decide), fun ⟨x, hx, h⟩ => by
        obtain ⟨i, hi⟩ := List.getElem?_of_mem hx
        have hil := (List.getElem?_eq_some_iff.1 hi).1
        refine absurd ?_ (HT.out i (by rw [← N1.out]; exact hil))
        rw [List.getD_eq_getElem?_getD, hi]
        exact h⟩
      go_wp2_with fail
      exact bodyPost_ret (v := .int .i64 (-1)) (by simp [results, Tryd.results61, go_sem]) rfl ⟨⟨_, rfl, HQ.out⟩, Below.refl _ _⟩
theorem conI_any {L : List Int} {P : Option Addr} {n c : Nat} {w : World} (hn : L.length = n) (hx : SlI w (.slice P n c) L) :
    Calls Tryd.prog 41 #[.slice P n c, .func (.func 33) #[] #[]] w fun e w' => (∃ b : Bool, e = .returned (.bool b) ∧ (b = true ↔ ∃ x ∈ L, 32 < x)) ∧ Below w.heap.size w w' := by
  have HC := Lib.hid (idxI_any hn hx)
  clear hn hx
  go_enter Tryd.func41, Tryd.ntmps41
  go_wp2_with fail
  refine HC.out.mono ?_
  rintro e w1 ⟨⟨r, rfl, hr⟩, hb⟩
  have HR := Lib.hid hr
  have HB := Lib.hid hb
  clear hr hb
  go_wp2_with fail
  exact bodyPost_ret (v := .bool (decide (0 ≤ r))) (by simp [results, Tryd.results41, go_sem]) rfl ⟨⟨_, rfl, by rw [decide_eq_true_iff]; exact HR.out⟩, HB.out⟩
theorem idxR_any {l : List (Ins × Value)} {A : Option Addr} {n c : Nat} {w : World} (hT : KTab w) (hn : l.length = n) (hbig : n ≤ 80000) (hr : InRow w (.slice A n c) l) :
    Calls Tryd.prog 62 #[.slice A n c, .func (.func 43) #[] #[]] w fun e w' => (∃ r : Int, e = .returned (.int .i64 r) ∧ (0 ≤ r ↔ ∃ p ∈ l, saneI p.1 = false)) ∧ Below w.heap.size w w' := by
  have hrun : ∀ args W, (callFunc 43 args).run Tryd.prog W = .ok (.enter 43 args) W := fun args W => Stab.run_enter Tryd.func43 (by kernel_rfl) rfl args W
  have HN := Lib.hid hn
  have HR := Lib.hid hr
  have HT := Lib.hid hT
  clear hn hr hT
  go_enter Tryd.func62, Tryd.ntmps62
  go_wp2_with fail
  go_loopw [8] (fun j' wr => ∃ k : Nat, j' = .int .i64 (k : Int) ∧ k ≤ n ∧ (∀ i, i < k → ∀ p, l[i]? = some p → saneI p.1 = true) ∧ Below w.heap.size w wr) (fun j' _ => n - (intOf j').toNat)
  case atStart => exact ⟨0, by go_num, Nat.zero_le _, fun i hi => absurd hi (by omega), Below.refl _ _⟩
  case round =>
    obtain ⟨k, rfl, hk, ht, hW⟩ := hrel
    have HALL := Lib.hid ht
    have HW := Lib.hid hW
    clear ht hW
    by_cases hlt : k < n
    · obtain ⟨y, hy⟩ : ∃ y, l[k]? = some y := ⟨_, List.getElem?_eq_getElem (by rw [HN.out]; exact hlt)⟩
      have HY := Lib.hid hy
      obtain ⟨g, off, rfl, hC, hO⟩ := (HR.out.keep HW.out).at_ hy
      obtain ⟨PL, cL, hpo, _⟩ := id hO.1
      have HO := Lib.hid hO
      obtain ⟨x, ov⟩ := y
      simp only at hpo
      obtain ⟨nL, hnL⟩ : ∃ nL, x.L.length = nL := ⟨_, rfl⟩
      rw [hnL] at hpo
      subst hpo
      clear hy hnL hO
      obtain ⟨q1, q2, q3, q4, q5⟩ := hC
      simp only at q1 q2 q3 q4 q5
      have HSL : Hid (SlI wr (.slice PL nL cL) x.L) := HO.out.1
      have HU : Hid (u64R x.K) := HO.out.2
      have HTW := Lib.hid (HT.out.keep HW.out)
      have hin1 : (0 : Int) ≤ (k : Int) := by omega
      have hin2 : (k : Int) < (n : Int) := by omega
      have hw1 : IntKind.i64.wrap ((k : Int) + 1) = (k : Int) + 1 := IntWalk.i64_in _ (by omega)
      go_wp2_with fail
      refine (maynot_any HSL.out HU.out HTW.out).mono ?_
      rintro e w1 ⟨rfl, hb⟩
      have HW1 := Lib.hid (HW.out.trans (hb.mono HW.out.size))
      clear hb q1 q2 q3 q4 q5
      cases hs : saneI x with
      | false =>
        have HQ : Hid (0 ≤ (k : Int) ↔ ∃ p ∈ l, saneI p.1 = false) := ⟨fun _ => ⟨_, List.mem_of_getElem? HY.out, hs⟩, fun _ => by omega⟩
        clear hs
        go_wp2_with fail
        exact bodyPost_ret (v := .int .i64 (k : Int)) (by simp [results, Tryd.results62, go_sem]) rfl ⟨⟨_, rfl, HQ.out⟩, HW1.out⟩
      | true =>
        have HQ : Hid (∀ i, i < k + 1 → ∀ p, l[i]? = some p → saneI p.1 = true) := fun i hi p hp => by
          by_cases e : i = k
          · subst e
            rw [HY.out] at hp
            rw [← Option.some.inj hp]
            exact hs
          · exact HALL.out i (by omega) p hp
        clear hs
        go_wp2_with fail
        go_roundw
        case rel => exact ⟨k + 1, by go_num, hlt, HQ.out, HW1.out⟩
        case measure => simp [intOf]; omega
    · obtain rfl : k = n := by omega
      have HQ : Hid (0 ≤ (-1 : Int) ↔ ∃ p ∈ l, saneI p.1 = false) := ⟨fun h => absurd h (by decide), fun ⟨p, hp, h⟩ => by
        obtain ⟨i, hi⟩ := List.getElem?_of_mem hp
        have hil := (List.getElem?_eq_some_iff.1 hi).1
        rw [HALL.out i (by rw [← HN.out]; exact hil) p hi] at h
        cases h⟩
      go_wp2_with fail
      exact bodyPost_ret (v := .int .i64 (-1)) (by simp [results, Tryd.results62, go_sem]) rfl ⟨⟨_, rfl, HQ.out⟩, HW.out⟩
theorem conR_any {l : List (Ins × Value)} {A : Option Addr} {n c : Nat} {w : World} (hT : KTab w) (hn : l.length = n) (hbig : n ≤ 80000) (hr : InRow w (.slice A n c) l) :
    Calls Tryd.prog 42 #[.slice A n c, .func (.func 43) #[] #[]] w fun e w' => (∃ b : Bool, e = .returned (.bool b) ∧ (b = true ↔ ∃ p ∈ l, saneI p.1 = false)) ∧ Below w.heap.size w w' := by
  have HC := Lib.hid (idxR_any hT hn hbig hr)
  clear hn hr hT
  go_enter Tryd.func42, Tryd.ntmps42
  go_wp2_with fail
  refine HC.out.mono ?_
  rintro e w1 ⟨⟨r, rfl, hr⟩, hb⟩
  have HR := Lib.hid hr
  have HB := Lib.hid hb
  clear hr hb
  go_wp2_with fail
  exact bodyPost_ret (v := .bool (decide (0 ≤ r))) (by simp [results, Tryd.results42, go_sem]) rfl ⟨⟨_, rfl, by rw [decide_eq_true_iff]; exact HR.out⟩, HB.out⟩
theorem depL_mem {ops : List Int} {i : Nat} {x : Int} (h : x ∈ depL ops i) : ∃ q, q < i ∧ x = ((aroundD ops q).length : Int) := by
  unfold depL at h
  obtain ⟨q, hq, rfl⟩ := List.mem_map.1 h
  exact ⟨q, by simpa using hq, rfl⟩
theorem mem_depL {ops : List Int} {i q : Nat} (h : q < i) : ((aroundD ops q).length : Int) ∈ depL ops i := by
  unfold depL
  exact List.mem_map.2 ⟨q, by simpa using h, rfl⟩
theorem bsaneP_any {l : List (Ins × Value)} {A : Option Addr} {n c : Nat} {w : World} (hT : KTab w) (hn : l.length = n) (hr : InRow w (.slice A n c) l) :
    Calls Tryd.prog 22 #[.slice A n c] w fun e w' => (∃ b : Bool, e = .returned (.bool b) ∧ (b = true ↔ SaneB l)) ∧ Below w.heap.size w w' := by
  have HN := Lib.hid hn
  have HR := Lib.hid hr
  have HT := Lib.hid hT
  clear hn hr hT
  by_cases h4 : n ≤ 4096
  · have t4 : decide ((4096 : Int) < (n : Int)) = false := decide_eq_false (by omega)
    have HC := Lib.hid (nested_any HT.out HN.out (by omega) HR.out)
    go_enter Tryd.func22, Tryd.ntmps22
    go_wp2_with fail
    refine HC.out.mono ?_
    rintro e w1 ⟨hres, hb⟩
    have HB := Lib.hid hb
    clear HC hb
    cases hd : dM (opsL l) with
    | none =>
      rw [hd] at hres
      obtain rfl := hres
      have HNO : Hid (¬ SaneB l) := fun h => by
        obtain ⟨⟨ms, h1⟩, _⟩ := h
        rw [hd] at h1
        cases h1
      clear hd
      go_wp2_with fail
      exact bodyPost_ret (v := .bool false) (by simp [results, Tryd.results22, go_sem]) rfl ⟨⟨false, rfl, by simpa using HNO.out⟩, HB.out.alloc HB.out.size _⟩
    | some ms =>
      rw [hd] at hres
      have HD := Lib.hid hd
      obtain ⟨vM, vD, vS, rfl, oM, oD, oS⟩ := hres
      have HS := Lib.hid (OwnI.slI oD)
      obtain ⟨P0, e0, hv0⟩ := OwnP.form oM
      obtain ⟨P1, e1, hv1⟩ := OwnI.form oD
      obtain ⟨P2, e2, hv2⟩ := OwnP.form oS
      obtain ⟨k0, hk0⟩ : ∃ k, ms.length = k := ⟨_, rfl⟩
      have hk1 : (depL (opsL l) l.length).length = n := by simp [depL, HN.out]
      rw [hk0] at hv0
      rw [hk1] at hv1
      subst hv0 hv1 hv2
      have HK1 := Lib.hid hk1
      clear hd oM oD oS hk0 hk1
      have HW1 := Lib.hid (HB.out.alloc HB.out.size (.cells #[.slice P0 k0 e0, .slice P1 n e1, .slice P2 0 e2] 56))
      have hal := (Below.refl w1.heap.size w1).alloc (Nat.le_refl _) (.cells #[.slice P0 k0 e0, .slice P1 n e1, .slice P2 0 e2] 56)
      have HCI := Lib.hid (conI_any HK1.out (HS.out.keep hal))
      clear hal
      go_wp2_with fail
      refine HCI.out.mono ?_
      rintro e w2 ⟨⟨b1, rfl, hb1⟩, hb⟩
      have HW2 := Lib.hid (HW1.out.trans (hb.mono HW1.out.size))
      clear hb HCI HW1
      cases b1 with
      | true =>
        have HNO : Hid (¬ SaneB l) := fun h => by
          obtain ⟨x, hx, hx2⟩ := hb1.1 rfl
          obtain ⟨q, hq, rfl⟩ := depL_mem hx
          have := (h.2.2 q _ (List.getElem?_eq_getElem hq)).2
          omega
        clear hb1
        go_wp2_with fail
        exact bodyPost_ret (v := .bool false) (by simp [results, Tryd.results22, go_sem]) rfl ⟨⟨false, rfl, by simpa using HNO.out⟩, HW2.out⟩
      | false =>
        have HDEP : Hid (∀ q, q < l.length → (aroundD (opsL l) q).length ≤ 32) := fun q hq => by
          by_cases hh : (aroundD (opsL l) q).length ≤ 32
          · exact hh
          · have := hb1.2 ⟨_, mem_depL hq, by omega⟩
            cases this
        clear hb1
        have HCR := Lib.hid (conR_any (HT.out.keep HW2.out) HN.out (by omega) (HR.out.keep HW2.out))
        go_wp2_with fail
        refine HCR.out.mono ?_
        rintro e w3 ⟨⟨b2, rfl, hb2⟩, hb⟩
        have HW3 := Lib.hid (HW2.out.trans (hb.mono HW2.out.size))
        have HRS : Hid ((!b2) = true ↔ SaneB l) := by
          show _ ↔ _
          constructor
          · intro h
            refine ⟨⟨ms, HD.out⟩, by rw [HN.out]; exact h4, fun q p hp => ⟨?_, HDEP.out q (List.getElem?_eq_some_iff.1 hp).1⟩⟩
            cases hs : saneI p.1 with
            | true => rfl
            | false =>
              have := hb2.2 ⟨p, List.mem_of_getElem? hp, hs⟩
              rw [this] at h
              cases h
          · intro h
            cases b2 with
            | false => rfl
            | true =>
              obtain ⟨p, hp, hs⟩ := hb2.1 rfl
              obtain ⟨q, hq⟩ := List.getElem?_of_mem hp
              rw [(h.2.2 q p hq).1] at hs
              cases hs
        clear hb hb2 HCR
        go_wp2_with fail
        exact bodyPost_ret (v := .bool (!b2)) (by simp [results, Tryd.results22, go_sem]) rfl ⟨⟨_, rfl, HRS.out⟩, HW3.out⟩
  · have t4 : decide ((4096 : Int) < (n : Int)) = true := decide_eq_true (by omega)
    have HNO : Hid (¬ SaneB l) := fun h => by
      have := h.2.1
      rw [HN.out] at this
      exact h4 this
    go_enter Tryd.func22, Tryd.ntmps22
    go_wp2_with fail
    exact bodyPost_ret (v := .bool false) (by simp [results, Tryd.results22, go_sem]) rfl ⟨⟨false, rfl, by simpa using HNO.out⟩, Below.refl _ _⟩
end Go.Proofs.YtdmidagcdhhlhaaDoor.Bod
