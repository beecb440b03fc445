/- Law BodyRows, walked. -/
import Derived.Test.YtdmidagcdhhlhaaDoorBodAwake
import Derived.Test.YtdmidagcdhhlhaaDoorBodFew
import Derived.Test.YtdmidagcdhhlhaaDoorBodEqual
import Derived.Test.YtdmidagcdhhlhaaDoorBodAppend
namespace Go.Proofs.YtdmidagcdhhlhaaDoor.Bod
open Go.RowKit Ints Typ Ins
set_option maxRecDepth 100000
set_option maxHeartbeats 4000000
set_option linter.unusedVariables false
theorem opsL_app (a b : List (Ins × Value)) : opsL (a ++ b) = opsL a ++ opsL b := by simp [opsL]
theorem depL_all {ops : List Int} {q : Nat} (h : q < ops.length) : (depL ops ops.length)[q]? = some (((aroundD ops q).length : Nat) : Int) := by
  unfold depL
  rw [List.getElem?_map, List.getElem?_range h]
  rfl
theorem sane_app {a b : List (Ins × Value)} (ha : Nested (opsL a)) (hb : Nested (opsL b)) (hl : a.length + b.length ≤ 4096) : SaneB (a ++ b) ↔ SaneB a ∧ SaneB b := by
  obtain ⟨hN, hD⟩ := nested_app ha hb
  have e1 : ∀ q, q < a.length → (aroundD (opsL a ++ opsL b) q).length = (aroundD (opsL a) q).length := fun q hq => by
    have h1 := depL_all (ops := opsL a ++ opsL b) (q := q) (by rw [List.length_append, opsL_len]; omega)
    have h2 := depL_all (ops := opsL a) (q := q) (by rw [opsL_len]; exact hq)
    rw [hD, List.getElem?_append_left (by simp [depL, opsL_len]; exact hq), h2] at h1
    have := Option.some.inj h1
    omega
  have e2 : ∀ q, q < b.length → (aroundD (opsL a ++ opsL b) (a.length + q)).length = (aroundD (opsL b) q).length := fun q hq => by
    have h1 := depL_all (ops := opsL a ++ opsL b) (q := a.length + q) (by rw [List.length_append, opsL_len, opsL_len]; omega)
    have h2 := depL_all (ops := opsL b) (q := q) (by rw [opsL_len]; exact hq)
    have hda : (depL (opsL a) (opsL a).length).length = a.length := by simp [depL, opsL_len]
    rw [hD, List.getElem?_append_right (by rw [hda]; omega), hda, show a.length + q - a.length = q from by omega, h2] at h1
    have := Option.some.inj h1
    omega
  constructor
  · intro h
    refine ⟨⟨dM_some ha, by omega, fun q p hp => ?_⟩, ⟨dM_some hb, by omega, fun q p hp => ?_⟩⟩
    · have hq := (List.getElem?_eq_some_iff.1 hp).1
      have := h.2.2 q p (by rw [List.getElem?_append_left hq]; exact hp)
      rw [opsL_app, e1 q hq] at this
      exact this
    · have hq := (List.getElem?_eq_some_iff.1 hp).1
      have := h.2.2 (a.length + q) p (by rw [List.getElem?_append_right (by omega), show a.length + q - a.length = q from by omega]; exact hp)
      rw [opsL_app, e2 q hq] at this
      exact this
  · rintro ⟨h1, h2⟩
    refine ⟨by rw [opsL_app]; exact dM_some hN, by rw [List.length_append]; exact hl, fun q p hp => ?_⟩
    rw [opsL_app]
    by_cases hq : q < a.length
    · rw [List.getElem?_append_left hq] at hp
      rw [e1 q hq]
      exact h1.2.2 q p hp
    · rw [List.getElem?_append_right (by omega)] at hp
      have hq2 := (List.getElem?_eq_some_iff.1 hp).1
      have := h2.2.2 _ p hp
      rw [← e2 _ hq2, show a.length + (q - a.length) = q from by omega] at this
      exact this
/-- Matches: whether. -/
theorem matches_is {l : List (Ins × Value)} {A : Option Addr} {n c : Nat} {w : World} (hT : KTab w) (hn : l.length = n) (hbig : n ≤ 80000) (hr : InRow w (.slice A n c) l) :
    Calls Tryd.prog 11 #[.slice A n c] w fun e w' => (∃ P k cc, e = .returned (.tuple #[.slice P k cc, .bool (dM (opsL l)).isSome])) ∧ Below w.heap.size w w' := by
  refine (matches_any hT hn hbig hr).mono ?_
  rintro e w' ⟨h, hb⟩
  refine ⟨?_, hb⟩
  cases hd : dM (opsL l) with
  | none =>
    rw [hd] at h
    exact ⟨none, 0, 0, h⟩
  | some ms =>
    rw [hd] at h
    obtain ⟨vM, h1, h2⟩ := h
    obtain ⟨P, c, e⟩ := OwnP.form h2
    rw [e] at h1
    exact ⟨P, _, c, h1⟩
theorem brows_law (v v2 : Value) (l m : List (Ins × Value)) (W : World) (hT : KTab W) (hr : InRow W v l) (hr2 : InRow W v2 m) : Calls Tryd.prog 8 #[v, v2] W fun e w' => e = .returned (.bool true) ∧ Below W.heap.size W w' := by
  obtain ⟨⟨A, c, rfl, hlc, hc9, _⟩, _⟩ := id hr
  obtain ⟨⟨A2, c2, rfl, hlc2, hc92, _⟩, _⟩ := id hr2
  obtain ⟨n, hn⟩ : ∃ n, l.length = n := ⟨_, rfl⟩
  obtain ⟨n2, hn2⟩ : ∃ n, m.length = n := ⟨_, rfl⟩
  rw [hn] at hr hlc ⊢
  rw [hn2] at hr2 hlc2 ⊢
  have HN := Lib.hid hn
  have HN2 := Lib.hid hn2
  have HT := Lib.hid hT
  have HR := Lib.hid hr
  have HR2 := Lib.hid hr2
  clear hn hn2 hT hr hr2
  go_enter Tryd.func8, Tryd.ntmps8
  go_wp2_with fail
  refine (up_any HT.out).mono ?_
  rintro e w1 ⟨rfl, hb⟩
  have HB1 := Lib.hid hb
  clear hb
  go_wp2_with fail
  refine (few_any 60 HN.out (HR.out.keep HB1.out)).mono ?_
  rintro e w2 ⟨⟨bf, rfl, hbf⟩, hww⟩
  subst hww
  cases bf with
  | false =>
    go_wp2_with fail
    exact bodyPost_ret (v := .bool true) (by simp [results, Tryd.results8, go_sem]) rfl ⟨rfl, HB1.out⟩
  | true =>
    have hfew := (hbf.1 rfl).1
    rw [HN.out] at hfew
    have hn60 : n ≤ 60 := by omega
    clear hfew hbf
    go_wp2_with fail
    refine (few_any 60 HN2.out (HR2.out.keep HB1.out)).mono ?_
    rintro e w3 ⟨⟨bf, rfl, hbf⟩, hww⟩
    subst hww
    cases bf with
    | false =>
      go_wp2_with fail
      exact bodyPost_ret (v := .bool true) (by simp [results, Tryd.results8, go_sem]) rfl ⟨rfl, HB1.out⟩
    | true =>
      have hfew := (hbf.1 rfl).1
      rw [HN2.out] at hfew
      have hm60 : n2 ≤ 60 := by omega
      clear hfew hbf
      go_wp2_with fail
      refine (matches_is (HT.out.keep HB1.out) HN.out (by omega) (HR.out.keep HB1.out)).mono ?_
      rintro e w4 ⟨⟨P1, k1, d1, rfl⟩, hb⟩
      have HB4 := Lib.hid (HB1.out.trans (hb.mono HB1.out.size))
      clear hb
      go_wp2_with fail
      refine (matches_is (HT.out.keep HB4.out) HN2.out (by omega) (HR2.out.keep HB4.out)).mono ?_
      rintro e w5 ⟨⟨P2, k2, d2, rfl⟩, hb⟩
      have HB5 := Lib.hid (HB4.out.trans (hb.mono HB4.out.size))
      clear hb HB4
      have HE : Hid (OwnR (w5.alloc (.cells #[] 50)) w5.heap.size (.slice (some ⟨w5.heap.size, 0, none⟩) 0 0) []) := ⟨rfl, .inr ⟨_, _, _, rfl, Nat.le_refl _, heap_new _ _, Nat.le_refl _, by simp [maxLen], by simp, by simp⟩⟩
      have HB5a := Lib.hid (HB5.out.alloc HB5.out.size (.cells #[] 50))
      have HLO : Hid (W.heap.size ≤ w5.heap.size) := HB5.out.size
      have HL5 : Hid (w5.heap.size ≤ (w5.alloc (.cells #[] 50)).heap.size) := by show _ ≤ _; rw [size_new]; omega
      go_wp2_with (at_builtin; first | (refine wp_rows _ rfl (.tmp 34) (.tmp 35) rfl w5.heap.size _ [] l rfl HE.out A c (by rw [HN.out]; rfl) (by rw [HN.out]; exact HR.out.keep HB5a.out) (by have := HN.out; simp; omega) HL5.out ?_; intro v6 w6 ho6 hb6; have HO6 := Lib.hid ho6; have HB6 := Lib.hid (HB5a.out.trans (hb6.mono HLO.out)); have HL6 : Hid (w5.heap.size ≤ w6.heap.size) := Nat.le_trans HL5.out hb6.size; clear ho6 hb6; go_wp2_with (at_builtin; refine wp_rows _ rfl (.tmp 36) (.tmp 37) rfl w5.heap.size _ l m rfl HO6.out A2 c2 (by rw [HN2.out]; rfl) (by rw [HN2.out]; exact HR2.out.keep HB6.out) (by have := HN.out; have := HN2.out; omega) HL6.out ?_; intro v7 w7 ho7 hb7; have HO7 := Lib.hid ho7; have HB7 := Lib.hid (HB6.out.trans (hb7.mono HLO.out)); clear ho7 hb7)))
      have HROW : Hid (InRow w7 v7 (l ++ m)) := OwnR.row HO7.out fun p hp => by
        rcases List.mem_append.1 hp with hp | hp
        · exact (HR.out.2 p hp).keep HB7.out
        · exact (HR2.out.2 p hp).keep HB7.out
      obtain ⟨P7, c7, hv7⟩ := OwnR.form HO7.out
      rw [List.length_append, HN.out, HN2.out] at hv7
      subst hv7
      have HNN : Hid ((l ++ m).length = n + n2) := by show _ = _; rw [List.length_append, HN.out, HN2.out]
      clear HE HB5a HO7
      go_wp2_with fail
      refine (matches_is (HT.out.keep HB7.out) HNN.out (by omega) HROW.out).mono ?_
      rintro e w8 ⟨⟨P3, k3, d3, rfl⟩, hb⟩
      have HB8 := Lib.hid (HB7.out.trans (hb.mono HB7.out.size))
      have HROW8 := Lib.hid (HROW.out.keep hb)
      clear hb HB7 HROW
      cases hd1 : dM (opsL l) with
      | none =>
        clear hd1
        go_wp2_with fail
        exact bodyPost_ret (v := .bool true) (by simp [results, Tryd.results8, go_sem]) rfl ⟨rfl, HB8.out⟩
      | some ms1 =>
        cases hd2 : dM (opsL m) with
        | none =>
          clear hd1 hd2
          go_wp2_with fail
          exact bodyPost_ret (v := .bool true) (by simp [results, Tryd.results8, go_sem]) rfl ⟨rfl, HB8.out⟩
        | some ms2 =>
          have hN1 := dM_nested hd1
          have hN2 := dM_nested hd2
          obtain ⟨hN3, hdep⟩ := nested_app hN1 hN2
          obtain ⟨ms3, hd3⟩ := dM_some hN3
          have e1 : dDepths (opsL l) = depL (opsL l) n := by unfold dDepths; rw [hd1, opsL_len, HN.out]
          have e2 : dDepths (opsL m) = depL (opsL m) n2 := by unfold dDepths; rw [hd2, opsL_len, HN2.out]
          have e3 : dDepths (opsL (l ++ m)) = depL (opsL l) n ++ depL (opsL m) n2 := by
            unfold dDepths
            rw [opsL_app, hd3]
            simp only
            rw [hdep, opsL_len, opsL_len, HN.out, HN2.out]
          have HE1 := Lib.hid e1
          have HE2 := Lib.hid e2
          have HE3 := Lib.hid e3
          have HSN := Lib.hid (sane_app hN1 hN2 (by rw [HN.out, HN2.out]; omega))
          have hd3' : dM (opsL (l ++ m)) = some ms3 := by rw [opsL_app]; exact hd3
          rw [hd3']
          clear hd1 hd2 hd3 hd3' e1 e2 e3 hN1 hN2 hN3 hdep
          go_wp2_with fail
          have HE9 : Hid (OwnI (w8.alloc (.cells #[] 3)) w8.heap.size (.slice (some ⟨w8.heap.size, 0, none⟩) 0 0) []) := ⟨rfl, .inr ⟨_, _, _, rfl, Nat.le_refl _, heap_new _ _, Nat.le_refl _, by simp [maxLen], by simp, by simp [vi]⟩⟩
          have HC9 := Lib.hid ((Below.refl w8.heap.size w8).alloc (Nat.le_refl _) (.cells #[] 3))
          have HL9 : Hid (W.heap.size ≤ w8.heap.size) := HB8.out.size
          generalize (w8.alloc (.cells #[] 3)) = w9 at *
          have HB9 := Lib.hid (HB8.out.trans (HC9.out.mono HL9.out))
          refine (depths_any (HT.out.keep HB9.out) HN.out (by omega) (HR.out.keep HB9.out)).mono ?_
          rintro e w10 ⟨⟨v10, rfl, ho⟩, hb⟩
          rw [HE1.out] at ho
          have HC10 := Lib.hid (HC9.out.trans (hb.mono HC9.out.size))
          have HE10 := Lib.hid (HE9.out.keep hb)
          have HS10 := Lib.hid (OwnI.slI ho)
          obtain ⟨P10, c10, hv10⟩ := OwnI.form ho
          have hdl : (depL (opsL l) n).length = n := by simp [depL]
          rw [hdl] at hv10
          subst hv10
          have HD1 := Lib.hid hdl
          clear hb ho hdl HE9 HB9
          obtain ⟨B8, hB8⟩ : ∃ B8, w8.heap.size = B8 := ⟨_, rfl⟩
          rw [hB8] at HC9 HC10 HE10 HL9 ⊢
          have HBB := Lib.hid hB8
          clear hB8
          go_wp2_with (at_builtin; refine wp_nums w10 rfl (.tmp 51) (.tmp 53) rfl B8 _ [] (depL (opsL l) n) rfl HE10.out P10 c10 (by rw [HD1.out]; rfl) (by rw [HD1.out]; exact HS10.out) (by have := HD1.out; simp; omega) (by rw [← HBB.out]; exact HC10.out.size) ?_; intro v11 w11 ho11 hb11; have HO11 := Lib.hid ho11; have HC11 := Lib.hid (HC10.out.trans hb11); clear ho11 hb11)
          have HB11 := Lib.hid (HB8.out.trans (HC11.out.mono HL9.out))
          rw [List.nil_append] at HO11
          refine (depths_any (HT.out.keep HB11.out) HN2.out (by omega) (HR2.out.keep HB11.out)).mono ?_
          rintro e w12 ⟨⟨v12, rfl, ho⟩, hb⟩
          rw [HE2.out] at ho
          have hw11 : B8 ≤ w11.heap.size := by rw [← HBB.out]; exact HC11.out.size
          have HC12 := Lib.hid (HC11.out.trans (hb.mono hw11))
          have HO12 := Lib.hid (HO11.out.keep hb)
          have HL12 : Hid (B8 ≤ w12.heap.size) := Nat.le_trans hw11 hb.size
          have HS12 := Lib.hid (OwnI.slI ho)
          obtain ⟨P12, c12, hv12⟩ := OwnI.form ho
          have hdl : (depL (opsL m) n2).length = n2 := by simp [depL]
          rw [hdl] at hv12
          subst hv12
          have HD2 := Lib.hid hdl
          clear hb ho hdl HB11 hw11
          go_wp2_with (at_builtin; refine wp_nums w12 rfl (.tmp 54) (.tmp 56) rfl B8 _ (depL (opsL l) n) (depL (opsL m) n2) rfl HO12.out P12 c12 (by rw [HD2.out]; rfl) (by rw [HD2.out]; exact HS12.out) (by have := HD1.out; have := HD2.out; omega) HL12.out ?_; intro v13 w13 ho13 hb13; have HO13 := Lib.hid ho13; have HC13 := Lib.hid (HC12.out.trans hb13); clear ho13 hb13)
          have HB13 := Lib.hid (HB8.out.trans (HC13.out.mono HL9.out))
          have HROW13 := Lib.hid (HROW8.out.keep (show Below w8.heap.size w8 w13 by rw [HBB.out]; exact HC13.out))
          obtain ⟨P13, c13, hv13⟩ := OwnI.form HO13.out
          obtain ⟨kX, hkX⟩ : ∃ k, (depL (opsL l) n ++ depL (opsL m) n2).length = k := ⟨_, rfl⟩
          rw [hkX] at hv13
          subst hv13
          clear hkX
          go_wp2_with fail
          refine (depths_any (HT.out.keep HB13.out) HNN.out (by omega) HROW13.out).mono ?_
          rintro e w14 ⟨⟨v14, rfl, ho⟩, hb⟩
          rw [HE3.out] at ho
          have HB14 := Lib.hid (HB13.out.trans (hb.mono HB13.out.size))
          have HROW14 := Lib.hid (HROW13.out.keep hb)
          have HS13 := Lib.hid (OwnI.slI (HO13.out.keep hb))
          have HS14 := Lib.hid (OwnI.slI ho)
          obtain ⟨P14, c14, hv14⟩ := OwnI.form ho
          obtain ⟨kY, hkY⟩ : ∃ k, (depL (opsL l) n ++ depL (opsL m) n2).length = k := ⟨_, rfl⟩
          rw [hkY] at hv14
          subst hv14
          clear hb ho HROW13 HO13 hkY
          go_wp2_with fail
          refine (ints_any HS14.out HS13.out).mono ?_
          rintro e w15 ⟨rfl, hb⟩
          rw [decide_eq_true rfl]
          have HB15 := Lib.hid (HB14.out.trans (hb.mono HB14.out.size))
          have HROW15 := Lib.hid (HROW14.out.keep hb)
          clear hb HROW14
          go_wp2_with fail
          refine (bsaneP_any (HT.out.keep HB15.out) HNN.out HROW15.out).mono ?_
          rintro e w16 ⟨⟨b1, rfl, hs1⟩, hb⟩
          have HB16 := Lib.hid (HB15.out.trans (hb.mono HB15.out.size))
          have HS1 := Lib.hid hs1
          clear hb hs1
          go_wp2_with fail
          refine (bsaneP_any (HT.out.keep HB16.out) HN.out (HR.out.keep HB16.out)).mono ?_
          rintro e w17 ⟨⟨b2, rfl, hs2⟩, hb⟩
          have HB17 := Lib.hid (HB16.out.trans (hb.mono HB16.out.size))
          have HS2 := Lib.hid hs2
          clear hb hs2
          cases b2 with
          | false =>
            have e0 : b1 = false := by
              cases b1 with
              | false => rfl
              | true =>
                have h1 := (HSN.out.1 (HS1.out.1 rfl)).1
                have := HS2.out.2 h1
                cases this
            subst e0
            go_wp2_with fail
            exact bodyPost_ret (v := .bool true) (by simp [results, Tryd.results8, go_sem]) rfl ⟨rfl, HB17.out⟩
          | true =>
            go_wp2_with fail
            refine (bsaneP_any (HT.out.keep HB17.out) HN2.out (HR2.out.keep HB17.out)).mono ?_
            rintro e w18 ⟨⟨b3, rfl, hs3⟩, hb⟩
            have HB18 := Lib.hid (HB17.out.trans (hb.mono HB17.out.size))
            have e0 : b1 = b3 := by
              cases b3 with
              | false =>
                cases b1 with
                | false => rfl
                | true =>
                  have h1 := (HSN.out.1 (HS1.out.1 rfl)).2
                  have := hs3.2 h1
                  cases this
              | true => exact HS1.out.2 (HSN.out.2 ⟨HS2.out.1 (by simp), hs3.1 (by simp)⟩)
            subst e0
            have tb : (b1 == b1) = true := by simp
            clear hb hs3
            go_wp2_with fail
            exact bodyPost_ret (v := .bool true) (by simp [results, Tryd.results8, go_sem]) rfl ⟨rfl, HB18.out⟩
end Go.Proofs.YtdmidagcdhhlhaaDoor.Bod
