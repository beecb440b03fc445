/- Law BodyBack, walked. -/
import Derived.Test.YtdmidagcdhhlhaaDoorBodAwake
import Derived.Test.YtdmidagcdhhlhaaDoorBodFew
import Derived.Test.YtdmidagcdhhlhaaDoorBodPutP
import Derived.Test.YtdmidagcdhhlhaaDoorBodReadP
import Derived.Test.YtdmidagcdhhlhaaDoorBodSameP
namespace Go.Proofs.YtdmidagcdhhlhaaDoor.Bod
open Go.RowKit Ints Typ Ins
set_option maxRecDepth 100000
set_option maxHeartbeats 4000000
set_option linter.unusedVariables false
theorem ibs_byte {l : List (Ins × Value)} (hu : ∀ p ∈ l, u64R p.1.K) (hs : ∀ p ∈ l, saneI p.1 = true) : ∀ y ∈ ibs l, 0 ≤ y ∧ y < 256 := fun y hy => by
  unfold ibs at hy
  obtain ⟨p, hp, hy⟩ := List.mem_flatMap.1 hy
  exact (ib_facts (hu p hp) (hs p hp)).2.2.1 y hy
theorem cut_sl {w : World} {g off n c M : Nat} {K : List Int} (h : Sl w (.slice (some ⟨g, off, none⟩) n c) K) (hM : M ≤ K.length) : Sl w (.slice (some ⟨g, off, none⟩) M c) (K.take M) := by
  obtain ⟨A, c', h1, h2, h3, h4⟩ := h
  injection h1 with e1 e2 e3
  subst e1 e3
  have hl : (K.take M).length = M := by rw [List.length_take]; omega
  refine ⟨_, c, by rw [hl], by omega, h3, fun h0 => ?_⟩
  obtain ⟨g', off', e, hB⟩ := h4 (fun e => h0 (by rw [e]; simp))
  simp only [Option.some.injEq, Addr.mk.injEq, and_true] at e
  obtain ⟨rfl, rfl⟩ := e
  exact ⟨g, off, rfl, hB.take M⟩
theorem bback_law (A T : Option Addr) (N cN S cS : Nat) (zb zt : List Int) (v : Value) (l : List (Ins × Value)) (W : World) (hT : KTab W) (hb : Leb.Came .u8 W A N cN zb) (hr : InRow W v l) (ht : Leb.Came .u8 W T S cS zt) : Calls Tryd.prog 4 #[.slice A N cN, v, .slice T S cS] W fun e w' => e = .returned (.bool true) ∧ Below W.heap.size W w' := by
  obtain ⟨⟨AL, c, rfl, hlc, hc9, _⟩, _⟩ := id hr
  obtain ⟨n, hn⟩ : ∃ n, l.length = n := ⟨_, rfl⟩
  rw [hn] at hr hlc ⊢
  obtain ⟨sb, bb⟩ := came_sl hb
  obtain ⟨st, bt⟩ := came_sl ht
  obtain ⟨lb_, _⟩ := came_parts hb
  obtain ⟨lt_, _⟩ := came_parts ht
  generalize zb.take N = b at sb bb lb_
  generalize zt.take S = t at st bt lt_
  have HN := Lib.hid hn
  have HT := Lib.hid hT
  have HR := Lib.hid hr
  have HSB := Lib.hid sb
  have HST := Lib.hid st
  have HBB := Lib.hid bb
  have HBT := Lib.hid bt
  have HLB := Lib.hid lb_
  have HLT := Lib.hid lt_
  clear hn hT hr hb ht sb st bb bt lb_ lt_
  go_enter Tryd.func4, Tryd.ntmps4
  go_wp2_with fail
  refine (up_any HT.out).mono ?_
  rintro e w1 ⟨rfl, hb⟩
  have HB1 := Lib.hid hb
  clear hb
  by_cases hN : 100 < N
  · have t1 : decide ((100 : Int) < (N : Int)) = true := decide_eq_true (by omega)
    have t1' : decide (100 < N) = true := decide_eq_true hN
    clear hN
    go_wp2_with fail
    exact bodyPost_ret (v := .bool true) (by simp [results, Tryd.results4, go_sem]) rfl ⟨rfl, HB1.out⟩
  · have t1 : decide ((100 : Int) < (N : Int)) = false := decide_eq_false (by omega)
    have t1' : decide (100 < N) = false := decide_eq_false hN
    by_cases hS : 100 < S
    · have t2 : decide ((100 : Int) < (S : Int)) = true := decide_eq_true (by omega)
      have t2' : decide (100 < S) = true := decide_eq_true hS
      clear hN hS
      go_wp2_with fail
      exact bodyPost_ret (v := .bool true) (by simp [results, Tryd.results4, go_sem]) rfl ⟨rfl, HB1.out⟩
    · have t2 : decide ((100 : Int) < (S : Int)) = false := decide_eq_false (by omega)
      have t2' : decide (100 < S) = false := decide_eq_false hS
      go_wp2_with fail
      refine (few_any 150 HN.out (HR.out.keep HB1.out)).mono ?_
      rintro e w2 ⟨⟨bf, rfl, hbf⟩, hww⟩
      subst hww
      cases bf with
      | false =>
        clear hbf
        go_wp2_with fail
        exact bodyPost_ret (v := .bool true) (by simp [results, Tryd.results4, go_sem]) rfl ⟨rfl, HB1.out⟩
      | true =>
        have hfew := (hbf.1 rfl).1
        rw [HN.out] at hfew
        have hn150 : n ≤ 150 := by omega
        clear hfew hbf t1 t1' t2 t2'
        by_cases hsn : SaneB l
        · have HSN := Lib.hid hsn
          have HU : Hid (∀ p ∈ l, u64R p.1.K) := fun p hp => (HR.out.2 p hp).2
          have HSI : Hid (∀ p ∈ l, saneI p.1 = true) := fun p hp => by
            obtain ⟨q, hq⟩ := List.getElem?_of_mem hp
            exact (HSN.out.2.2 q p hq).1
          have HP := Lib.hid (bputP_yes (A0 := A) (c0 := cN) (b := b) (HT.out.keep HB1.out) HN.out (HR.out.keep HB1.out) hsn (by rw [HLB.out]; exact HSB.out.keep HB1.out) (by rw [HLB.out]; omega))
          rw [HLB.out] at HP
          have HKL : Hid ((b ++ ibs l).length ≤ 105100) := by
            have h := ibs_len HU.out HSI.out
            have h2 := HN.out
            have h3 := HLB.out
            show _ ≤ _
            rw [List.length_append]
            omega
          have HRB := Lib.hid (prd_back HU.out hsn b t (f := 4098) (by rw [HN.out]; omega))
          have HRC := Lib.hid (prd_cut HU.out hsn b (f := 4098) (by rw [HN.out]; omega))
          have HYB : Hid (∀ y ∈ b ++ ibs l, 0 ≤ y ∧ y < 256) := fun y hy => (List.mem_append.1 hy).elim (HBB.out y) (ibs_byte HU.out HSI.out y)
          rw [HLB.out] at HRB HRC
          generalize b ++ ibs l = K at HP HKL HRB HRC HYB
          obtain ⟨M, hM⟩ : ∃ M, K.length = M := ⟨_, rfl⟩
          have HM := Lib.hid hM
          rw [hM] at HRB
          have hMb : M ≤ 105100 := by have := HKL.out; omega
          clear hM hsn
          go_wp2_with fail
          refine HP.out.mono ?_
          rintro e w4 ⟨v4, rfl, hs4, hb4⟩
          have HB4 := Lib.hid (HB1.out.trans (hb4.mono HB1.out.size))
          obtain ⟨A4, c4, hv4, hc4, hc49, h4⟩ := id hs4
          have hk4 : (K ++ [11]).length = M + 1 := by rw [List.length_append, HM.out]; rfl
          obtain ⟨g4, f4, hA4, _⟩ := h4 (by simp)
          subst hA4
          rw [hk4] at hv4 hc4
          subst hv4
          have HS4 := Lib.hid hs4
          have HK4 := Lib.hid hk4
          clear hs4 hb4 h4 hk4
          have HC4 := Lib.hid ((Below.refl w4.heap.size w4).alloc (Nat.le_refl _) (.cells #[] 5))
          have HE : Hid (OwnB (w4.alloc (.cells #[] 5)) w4.heap.size (.slice (some ⟨w4.heap.size, 0, none⟩) 0 0) []) := ⟨rfl, .inr ⟨_, _, _, rfl, Nat.le_refl _, heap_new _ _, Nat.le_refl _, by simp [maxLen], by simp, by simp [vb]⟩⟩
          go_wp2_with (at_builtin; go_loud (refine wp_byB _ rfl (.tmp 51) (.tmp 52) rfl w4.heap.size _ [] (K ++ [11]) rfl HE.out (some ⟨g4, f4, none⟩) c4 (by rw [HK4.out]; rfl) (by rw [HK4.out]; exact HS4.out.keep HC4.out) (by have e1 := HK4.out; simp only [List.length_append, List.length_nil, List.length_cons] at e1 ⊢; omega) HC4.out.size ?_; intro v5 w5 ho5 hb5; have HO5 := Lib.hid ho5; have HC5 := Lib.hid (HC4.out.trans hb5); clear ho5 hb5; go_wp2_with (at_builtin; refine wp_byB _ rfl (.tmp 53) (.tmp 54) rfl w4.heap.size _ ([] ++ (K ++ [11])) t rfl HO5.out T cS (by rw [HLT.out]; rfl) (by rw [HLT.out]; exact HST.out.keep (HB4.out.trans (HC5.out.mono HB4.out.size))) (by have e1 := HK4.out; have e2 := HLT.out; simp only [List.length_append, List.length_nil, List.length_cons] at e1 ⊢; omega) HC5.out.size ?_; intro v6 w6 ho6 hb6; have HO6 := Lib.hid ho6; have HC6 := Lib.hid (HC5.out.trans hb6); clear ho6 hb6)))
          have HB6 := Lib.hid (HB4.out.trans (HC6.out.mono HB4.out.size))
          have HS6 := Lib.hid (HS4.out.keep HC6.out)
          have HALL := Lib.hid (HO6.out.sl)
          rw [show [] ++ (K ++ [11]) ++ t = K ++ (11 :: t) from by simp] at HALL
          have C7 := pbread_any (N : Int) (HT.out.keep HB6.out) HALL.out (fun y hy => by
            rcases List.mem_append.1 hy with hy | hy
            · exact HYB.out y hy
            · rcases List.mem_cons.1 hy with rfl | hy
              · exact ⟨by decide, by decide⟩
              · exact HBT.out y hy) (by have := HM.out; have := HLT.out; simp; omega)
          rw [HRB.out] at C7
          have HC7 := Lib.hid C7
          obtain ⟨A6, c6, hv6, _⟩ := OwnB.row HO6.out
          obtain ⟨k6, hk6⟩ : ∃ k, ([] ++ (K ++ [11]) ++ t).length = k := ⟨_, rfl⟩
          rw [hk6] at hv6
          subst hv6
          clear hk6 C7 HE HC4 HC5 HO5 HO6 HALL
          go_wp2_with fail
          refine HC7.out.mono ?_
          rintro e w7 ⟨v7, l7, rfl, hr7, hi7, hb7⟩
          have HB7 := Lib.hid (HB6.out.trans (hb7.mono HB6.out.size))
          have HR7 := Lib.hid hr7
          have HI7 := Lib.hid hi7
          have HS7 := Lib.hid (HS6.out.keep hb7)
          obtain ⟨⟨A7, c7, hv7, _⟩, _⟩ := id hr7
          obtain ⟨k7, hk7⟩ : ∃ k, l7.length = k := ⟨_, rfl⟩
          rw [hk7] at hv7
          subst hv7
          clear hr7 hi7 hb7 hk7 HC7 HC6 HS6
          have hcut := cut_sl HS7.out (M := M) (by rw [HK4.out]; omega)
          rw [show (K ++ [(11 : Int)]).take M = K from by rw [List.take_append_of_le_length (by rw [HM.out]; exact Nat.le_refl _), List.take_of_length_le (by rw [HM.out]; exact Nat.le_refl _)]] at hcut
          have C8 := pbread_any (N : Int) (HT.out.keep HB7.out) hcut HYB.out (by have := HM.out; omega)
          rw [HRC.out] at C8
          have HC8 := Lib.hid C8
          have w1 : IntKind.i64.wrap (((M + 1 : Nat) : Int) - 1) = (M : Int) := by rw [IntWalk.i64_in _ (by omega)]; omega
          have w1' : IntKind.i64.wrap (M : Int) = (M : Int) := IntWalk.i64_in _ (by omega)
          have i1 : (0 : Int) ≤ (M : Int) := by omega
          have i2 : (M : Int) ≤ (c4 : Int) := by omega
          clear hcut C8
          have hM0 : M = 0 ∨ 0 < M := by omega
          rcases hM0 with hM0 | hM0
          · subst hM0
            go_wp2_with fail
            refine HC8.out.mono ?_
            rintro e w8 ⟨v8, l8, rfl, hr8, hi8, hb8⟩
            have HB8 := Lib.hid (HB7.out.trans (hb8.mono HB7.out.size))
            have HR8 := Lib.hid (HR7.out.keep hb8)
            obtain ⟨⟨A8, c8, hv8, _⟩, _⟩ := id hr8
            obtain ⟨k8, hk8⟩ : ∃ k, l8.length = k := ⟨_, rfl⟩
            rw [hk8] at hv8
            subst hv8
            clear hr8 hi8 hb8 hk8 HC8
            go_wp2_with fail
            refine (bsaneP_any (HT.out.keep HB8.out) HN.out (HR.out.keep HB8.out)).mono ?_
            rintro e w9 ⟨⟨b1, rfl, hs1⟩, hb⟩
            have HB9 := Lib.hid (HB8.out.trans (hb.mono HB8.out.size))
            have HR9 := Lib.hid (HR8.out.keep hb)
            obtain rfl : b1 = true := hs1.2 HSN.out
            clear hs1 hb
            go_wp2_with fail
            refine (bsameP_any (by rw [HN.out]; omega) (HR.out.keep HB9.out) HR9.out).mono ?_
            rintro e w10 ⟨⟨b2, rfl, hs2⟩, hb⟩
            have HB10 := Lib.hid (HB9.out.trans (hb.mono HB9.out.size))
            obtain rfl : b2 = true := hs2.2 HI7.out.symm
            clear hs2 hb
            go_wp2_with fail
            exact bodyPost_ret (v := .bool true) (by simp [results, Tryd.results4, go_sem]) rfl ⟨rfl, HB10.out⟩
          · have hM1 : (0 : Int) < (M : Int) := by omega
            have hmx : max 0 (M : Int) = (M : Int) := by omega
            go_wp2_with fail
            refine HC8.out.mono ?_
            rintro e w8 ⟨v8, l8, rfl, hr8, hi8, hb8⟩
            have HB8 := Lib.hid (HB7.out.trans (hb8.mono HB7.out.size))
            have HR8 := Lib.hid (HR7.out.keep hb8)
            obtain ⟨⟨A8, c8, hv8, _⟩, _⟩ := id hr8
            obtain ⟨k8, hk8⟩ : ∃ k, l8.length = k := ⟨_, rfl⟩
            rw [hk8] at hv8
            subst hv8
            clear hr8 hi8 hb8 hk8 HC8
            go_wp2_with fail
            refine (bsaneP_any (HT.out.keep HB8.out) HN.out (HR.out.keep HB8.out)).mono ?_
            rintro e w9 ⟨⟨b1, rfl, hs1⟩, hb⟩
            have HB9 := Lib.hid (HB8.out.trans (hb.mono HB8.out.size))
            have HR9 := Lib.hid (HR8.out.keep hb)
            obtain rfl : b1 = true := hs1.2 HSN.out
            clear hs1 hb
            go_wp2_with fail
            refine (bsameP_any (by rw [HN.out]; omega) (HR.out.keep HB9.out) HR9.out).mono ?_
            rintro e w10 ⟨⟨b2, rfl, hs2⟩, hb⟩
            have HB10 := Lib.hid (HB9.out.trans (hb.mono HB9.out.size))
            obtain rfl : b2 = true := hs2.2 HI7.out.symm
            clear hs2 hb
            go_wp2_with fail
            exact bodyPost_ret (v := .bool true) (by simp [results, Tryd.results4, go_sem]) rfl ⟨rfl, HB10.out⟩
        · have HNO := Lib.hid hsn
          have HP := Lib.hid (bputP_no (A0 := A) (m := N) (c0 := cN) (HT.out.keep HB1.out) HN.out (HR.out.keep HB1.out) hsn)
          clear hsn
          go_wp2_with fail
          refine HP.out.mono ?_
          rintro e w4 ⟨v4, rfl, hs4, hb4⟩
          have HB4 := Lib.hid (HB1.out.trans (hb4.mono HB1.out.size))
          obtain ⟨A4, c4, hv4, _⟩ := id hs4
          subst hv4
          clear hs4 hb4
          go_wp2_with fail
          refine (bsaneP_any (HT.out.keep HB4.out) HN.out (HR.out.keep HB4.out)).mono ?_
          rintro e w5 ⟨⟨b1, rfl, hs1⟩, hb⟩
          have HB5 := Lib.hid (HB4.out.trans (hb.mono HB4.out.size))
          obtain rfl : b1 = false := by
            cases b1 with
            | false => rfl
            | true => exact absurd (hs1.1 rfl) HNO.out
          clear hs1 hb
          go_wp2_with fail
          exact bodyPost_ret (v := .bool true) (by simp [results, Tryd.results4, go_sem]) rfl ⟨rfl, HB5.out⟩
end Go.Proofs.YtdmidagcdhhlhaaDoor.Bod
