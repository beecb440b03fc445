/- Law BodyDeeper, walked. -/
import Derived.Test.YtdmidagcdhhlhaaDoorBodyTargetsWalk
import Derived.Test.YtdmidagcdhhlhaaDoorBodAppend
namespace Go.Proofs.YtdmidagcdhhlhaaDoor.Bod
open Go.RowKit Ints Typ Ins
set_option maxRecDepth 100000
set_option maxHeartbeats 4000000
set_option linter.unusedVariables false
def one (o : Int) : Ins × Value := (⟨o, 0, 0, 0, []⟩, .slice none 0 0)
theorem opsL_in (l : List (Ins × Value)) : opsL ([one 2] ++ l ++ [one 11]) = 2 :: opsL l ++ [11] := by simp [opsL, one]
theorem tgt_lim {ops : List Int} (h : Nested ops) {p : Nat} (hp : p < ops.length) {x : Int} (hx : tgt ops p ((0 : Nat) : Int) = (x, true)) : 0 ≤ x ∧ x ≤ (ops.length : Int) := by
  obtain ⟨h1, h2, h3⟩ := tgt_out h (n := 0) hp
  by_cases g : 0 < (aroundD ops p).length
  · obtain ⟨t, e1, e2, _⟩ := h3 g
    rw [hx] at e1
    simp only [Prod.mk.injEq, and_true] at e1
    omega
  · have e1 := h2 (by omega)
    rw [hx] at e1
    simp only [Prod.mk.injEq, and_true] at e1
    omega
theorem dep_in {ops : List Int} (h : Nested ops) : dDepths (2 :: ops ++ [11]) = depL (2 :: ops ++ [11]) (ops.length + 2) ∧ ∀ i, (depL (2 :: ops ++ [11]) (ops.length + 2)).getD i 0 = if i = 0 then 0 else if i ≤ ops.length then ((aroundD ops (i - 1)).length : Int) + 1 else 0 := by
  obtain ⟨hN, h1, h2, h3, _⟩ := nested_in h
  obtain ⟨ms, hms⟩ := dM_some hN
  have hl : (2 :: ops ++ [11] : List Int).length = ops.length + 2 := by simp
  refine ⟨by unfold dDepths; rw [hms, hl], fun i => ?_⟩
  by_cases hi : i < ops.length + 2
  · rw [depL_get _ hi]
    by_cases h0 : i = 0
    · subst h0; rw [if_pos rfl, h2]; rfl
    · rw [if_neg h0]
      by_cases h4 : i ≤ ops.length
      · rw [if_pos h4]
        have := h1 (i - 1) (by omega)
        rw [show i - 1 + 1 = i from by omega] at this
        rw [this]
        omega
      · rw [if_neg h4]
        obtain rfl : i = ops.length + 1 := by omega
        rw [h3]
        rfl
  · rw [if_neg (by omega), if_neg (by omega), List.getD_eq_getElem?_getD, List.getElem?_eq_none (by simp [depL]; omega)]
    rfl
theorem one_own (w : World) (o : Int) : OwnR (w.alloc (.cells #[.int .i64 o, .int .i64 0, .int .i64 0, .int .u64 0, .slice none 0 0] 50)) w.heap.size (.slice (some ⟨w.heap.size, 0, none⟩) 1 1) [one o] :=
  ⟨rfl, .inr ⟨_, _, _, rfl, Nat.le_refl _, heap_new _ _, Nat.le_refl _, by simp [maxLen], by simp, by simp [one, c5]⟩⟩
theorem bdeeper_law (v : Value) (l : List (Ins × Value)) (a : Int) (W : World) (hT : KTab W) (hr : InRow W v l) : Calls Tryd.prog 7 #[v, .int .i64 a] W fun e w' => e = .returned (.bool true) ∧ Below W.heap.size W w' := by
  obtain ⟨⟨A, c, rfl, hlc, hc9, _⟩, _⟩ := id hr
  obtain ⟨n, hn⟩ : ∃ n, l.length = n := ⟨_, rfl⟩
  rw [hn] at hr hlc ⊢
  have HN := Lib.hid hn
  have HT := Lib.hid hT
  have HR := Lib.hid hr
  obtain ⟨m, hm, hm2⟩ := bits_mask a 65535 (by decide)
  have hm : bits .and .i64 a 65535 = (m : Int) := hm
  clear hn hT hr
  go_enter Tryd.func7, Tryd.ntmps7
  go_wp2_with fail
  refine (up_any HT.out).mono ?_
  rintro e w1 ⟨rfl, hb⟩
  have HB1 := Lib.hid hb
  clear hb
  go_wp2_with fail
  refine (few_any 100 HN.out (HR.out.keep HB1.out)).mono ?_
  rintro e w2 ⟨⟨bf, rfl, hbf⟩, hww⟩
  subst hww
  have HB2 := HB1
  cases bf with
  | false =>
    go_wp2_with fail
    exact bodyPost_ret (v := .bool true) (by simp [results, Tryd.results7, go_sem]) rfl ⟨rfl, HB2.out⟩
  | true =>
    have hfew := (hbf.1 rfl).1
    rw [HN.out] at hfew
    have hn120 : n ≤ 100 := by omega
    clear hfew hbf
    cases n with
    | zero =>
      go_wp2_with fail
      exact bodyPost_ret (v := .bool true) (by simp [results, Tryd.results7, go_sem]) rfl ⟨rfl, HB2.out⟩
    | succ n' =>
      obtain ⟨n, hnn⟩ : ∃ n, n' + 1 = n := ⟨_, rfl⟩
      have hz : ((n : Int) == 0) = false := by simp; omega
      have hn0 : n ≠ 0 := by omega
      rw [hnn] at HN HR hn120 hlc ⊢
      clear hnn
      have HE := Lib.hid (one_own w2 2)
      have HB2a := Lib.hid (HB2.out.alloc HB2.out.size (.cells #[.int .i64 2, .int .i64 0, .int .i64 0, .int .u64 0, .slice none 0 0] 50))
      have HLO : Hid (W.heap.size ≤ w2.heap.size) := HB2.out.size
      have HL2 : Hid (w2.heap.size ≤ (w2.alloc (.cells #[.int .i64 2, .int .i64 0, .int .i64 0, .int .u64 0, .slice none 0 0] 50)).heap.size) := by show _ ≤ _; rw [size_new]; omega
      go_wp2_with (at_builtin; first | (refine wp_rows _ rfl (.tmp 28) (.tmp 29) rfl w2.heap.size _ [one 2] l rfl HE.out A c (by rw [HN.out]; rfl) (by rw [HN.out]; exact HR.out.keep HB2a.out) (by have := HN.out; simp; omega) HL2.out ?_; intro v3 w3 ho3 hb3; have HO3 := Lib.hid ho3; have HB3 := Lib.hid (HB2a.out.trans (hb3.mono HLO.out)); have HL3 : Hid (w2.heap.size ≤ w3.heap.size) := Nat.le_trans HL2.out hb3.size; clear ho3 hb3; obtain ⟨P3, c3, hv3⟩ := OwnR.form HO3.out; rw [show ([one 2] ++ l).length = n + 1 from by rw [List.length_append, HN.out]; simp; omega] at hv3; subst hv3; go_wp2_with (at_builtin; refine wp_oneR w3 rfl (.tmp 31) (.tmp 33) rfl w2.heap.size _ ([one 2] ++ l) (one 11) ⟨_, _, _, rfl⟩ rfl HO3.out rfl (by rw [List.length_append, HN.out]; simp; omega) HL3.out ?_; intro v4 w4 ho4 hb4 hk4; have HO4 := Lib.hid ho4; have HB4 := Lib.hid (HB3.out.trans (hb4.mono HLO.out)); clear ho4 hb4 hk4)))
      have HROW : Hid (InRow w4 v4 ([one 2] ++ l ++ [one 11])) := OwnR.row HO4.out fun p hp => by
        rcases List.mem_append.1 hp with hp | hp
        · rcases List.mem_append.1 hp with hp | hp
          · obtain rfl := List.mem_singleton.1 hp
            exact up_ok _ _
          · exact (HR.out.2 p hp).keep HB4.out
        · obtain rfl := List.mem_singleton.1 hp
          exact up_ok _ _
      obtain ⟨P4, c4, hv4⟩ := OwnR.form HO4.out
      have HNN : Hid (([one 2] ++ l ++ [one 11]).length = n + 2) := by show _ = _; rw [List.length_append, List.length_append, HN.out]; simp; omega
      rw [HNN.out] at hv4
      subst hv4
      clear HE HB2a HO3 HB3 HO4 HL2 HL3
      go_wp2_with fail
      refine (depths_any (HT.out.keep HB4.out) HN.out (by omega) (HR.out.keep HB4.out)).mono ?_
      rintro e w5 ⟨⟨v5, rfl, ho⟩, hb⟩
      have HB5 := Lib.hid (HB4.out.trans (hb.mono HB4.out.size))
      have HROW5 := Lib.hid (HROW.out.keep hb)
      have HS5 := Lib.hid (OwnI.slI ho)
      obtain ⟨P5, c5', hv5⟩ := OwnI.form ho
      obtain ⟨k5, hk5⟩ : ∃ k, (dDepths (opsL l)).length = k := ⟨_, rfl⟩
      rw [hk5] at hv5
      subst hv5
      have HK5 := Lib.hid hk5
      clear ho hb HROW hk5
      go_wp2_with fail
      refine (depths_any (HT.out.keep HB5.out) HNN.out (by omega) HROW5.out).mono ?_
      rintro e w6 ⟨⟨v6, rfl, ho⟩, hb⟩
      have HB6 := Lib.hid (HB5.out.trans (hb.mono HB5.out.size))
      have HROW6 := Lib.hid (HROW5.out.keep hb)
      have HS5 := Lib.hid (HS5.out.keep hb)
      have HS6 := Lib.hid (OwnI.slI ho)
      obtain ⟨P6, c6, hv6⟩ := OwnI.form ho
      obtain ⟨k6, hk6⟩ : ∃ k, (dDepths (opsL ([one 2] ++ l ++ [one 11]))).length = k := ⟨_, rfl⟩
      rw [hk6] at hv6
      subst hv6
      have HK6 := Lib.hid hk6
      clear ho hb HROW5 hk6
      cases hd : dM (opsL l) with
      | none =>
        have hdd : dDepths (opsL l) = [] := by unfold dDepths; rw [hd]
        obtain rfl : k5 = 0 := by rw [← HK5.out, hdd]; rfl
        have t1 : ((0 : Int) != (n : Int)) = true := by simp; omega
        have t1' : (0 != n) = true := by simp; omega
        cases hd2 : dM (opsL ([one 2] ++ l ++ [one 11])) with
        | none =>
          have hdd2 : dDepths (opsL ([one 2] ++ l ++ [one 11])) = [] := by unfold dDepths; rw [hd2]
          obtain rfl : k6 = 0 := by rw [← HK6.out, hdd2]; rfl
          clear hd hdd hd2 hdd2
          go_wp2_with fail
          exact bodyPost_ret (v := .bool true) (by simp [results, Tryd.results7, go_sem]) rfl ⟨rfl, HB6.out⟩
        | some ms2 =>
          have hdd2 : dDepths (opsL ([one 2] ++ l ++ [one 11])) = depL (opsL ([one 2] ++ l ++ [one 11])) (n + 2) := by unfold dDepths; rw [hd2, opsL_len, HNN.out]
          obtain rfl : k6 = n + 2 := by rw [← HK6.out, hdd2]; simp [depL]
          have t2 : ((((n + 2 : Nat) : Int)) == 0) = false := by simp; omega
          have t2' : ((n : Int) + 2 == 0) = false := by simp; omega
          clear hd hdd hd2 hdd2
          go_wp2_with fail
          exact bodyPost_ret (v := .bool true) (by simp [results, Tryd.results7, go_sem]) rfl ⟨rfl, HB6.out⟩
      | some ms =>
        have hN := dM_nested hd
        have hdd : dDepths (opsL l) = depL (opsL l) n := by unfold dDepths; rw [hd, opsL_len, HN.out]
        obtain rfl : k5 = n := by rw [← HK5.out, hdd]; simp [depL]
        obtain ⟨hdi, hdg⟩ := dep_in hN
        rw [← opsL_in] at hdi hdg
        rw [opsL_len, HN.out] at hdi hdg
        obtain rfl : k6 = k5 + 2 := by rw [← HK6.out, hdi]; simp [depL]
        have HD := Lib.hid hd
        have HNE := Lib.hid hN
        have HDI : Hid (∀ i, (dDepths (opsL ([one 2] ++ l ++ [one 11]))).getD i 0 = if i = 0 then 0 else if i ≤ k5 then ((aroundD (opsL l) (i - 1)).length : Int) + 1 else 0) := fun i => by rw [hdi]; exact hdg i
        have HDL := Lib.hid (show ∀ i, i < k5 → (dDepths (opsL l)).getD i 0 = ((aroundD (opsL l) i).length : Int) from fun i hi => by rw [hdd, depL_get _ hi])
        have hdb : ∀ i, i < k5 → (aroundD (opsL l) i).length ≤ k5 := fun i hi => by
          have h1 := arL_len (arF (opsL l) ms i) i 0
          rw [ar_is hd (by rw [opsL_len, HN.out]; exact hi)] at h1
          omega
        have HDB := Lib.hid hdb
        clear hd hN hdd hdi hdg hdb
        obtain ⟨g6, o6, hP6, _, hc0⟩ := sl_cell HS6.out (i := 0) (by rw [HK6.out]; omega)
        subst hP6
        rw [HDI.out, if_pos rfl] at hc0
        obtain ⟨_, _, hP6, _, hc1⟩ := sl_cell HS6.out (i := k5 + 1) (by rw [HK6.out]; omega)
        simp only [Option.some.injEq, Addr.mk.injEq, and_true] at hP6
        obtain ⟨rfl, rfl⟩ := hP6
        rw [HDI.out, if_neg (by omega), if_neg (by omega)] at hc1
        rw [Nat.add_zero] at hc0
        have w1 : IntKind.i64.wrap (((k5 + 2 : Nat) : Int) - 1) = (((k5 + 1 : Nat)) : Int) := by rw [IntWalk.i64_in _ (by omega)]; omega
        have w1' : IntKind.i64.wrap ((k5 : Int) + 2 - 1) = (((k5 + 1 : Nat)) : Int) := by rw [IntWalk.i64_in _ (by omega)]; omega
        have i1 : (0 : Int) ≤ (((k5 + 1 : Nat)) : Int) := by omega
        have i2 : (((k5 + 1 : Nat)) : Int) < (((k5 + 2 : Nat)) : Int) := by omega
        have i3 : (0 : Int) < (((k5 + 2 : Nat)) : Int) := by omega
        obtain ⟨g5, o5, hP5, _, _⟩ := sl_cell HS5.out (i := 0) (by rw [HK5.out]; omega)
        subst hP5
        obtain ⟨p, hp⟩ : ∃ p, m % k5 = p := ⟨_, rfl⟩
        have hpn : p < k5 := by rw [← hp]; exact Nat.mod_lt _ (by omega)
        have hr1 : (m : Int).tmod (k5 : Int) = (p : Int) := by rw [← hp]; rfl
        have hr2 : IntKind.i64.wrap (p : Int) = (p : Int) := IntWalk.i64_in _ (by omega)
        have HPN := Lib.hid hpn
        have HLW6 : Hid (W.heap.size ≤ w6.heap.size) := HB6.out.size
        clear hp hpn
        go_wp2_with fail
        clear hc0 hc1 w1 w1' i1 i2 i3
        go_loopw [9] (fun i' wr => ∃ i : Nat, i ≤ k5 ∧ i' = .int .i64 (i : Int) ∧ Below w6.heap.size w6 wr) (fun i' _ => k5 - (intOf i').toNat)
        case atStart => exact ⟨0, by omega, rfl, Below.refl _ _⟩
        case round =>
          obtain ⟨i, hi, rfl, hW⟩ := hrel
          have HW := Lib.hid hW
          clear hW
          by_cases hlt : i < k5
          · have t1 : decide ((i : Int) < (k5 : Int)) = true := decide_eq_true (by omega)
            obtain ⟨_, _, hP, _, hc0⟩ := sl_cell (HS6.out.keep HW.out) (i := i + 1) (by rw [HK6.out]; omega)
            simp only [Option.some.injEq, Addr.mk.injEq, and_true] at hP
            obtain ⟨rfl, rfl⟩ := hP
            rw [HDI.out, if_neg (by omega), if_pos (by omega), Nat.add_sub_cancel] at hc0
            obtain ⟨_, _, hP, _, hc1⟩ := sl_cell (HS5.out.keep HW.out) (i := i) (by rw [HK5.out]; omega)
            simp only [Option.some.injEq, Addr.mk.injEq, and_true] at hP
            obtain ⟨rfl, rfl⟩ := hP
            rw [HDL.out i hlt] at hc1
            have hdb := HDB.out i hlt
            generalize (aroundD (opsL l) i).length = d at hc0 hc1 hdb
            have w1 : IntKind.i64.wrap ((i : Int) + 1) = ((i + 1 : Nat) : Int) := by rw [IntWalk.i64_in _ (by omega)]; omega
            have w2 : IntKind.i64.wrap ((d : Int) + 1) = (d : Int) + 1 := IntWalk.i64_in _ (by omega)
            have i1 : (0 : Int) ≤ (i : Int) := by omega
            have i2 : (i : Int) < (k5 : Int) := by omega
            have i3 : (0 : Int) ≤ ((i + 1 : Nat) : Int) := by omega
            have i4 : ((i + 1 : Nat) : Int) < ((k5 + 2 : Nat) : Int) := by omega
            go_wp2_with fail
            go_quiet (fail)
            go_wp2_with fail
            go_roundw
            case rel => exact ⟨i + 1, hlt, by go_num, HW.out.trans (drewNB _ _ HW.out.size)⟩
            case measure => simp [intOf]; omega
          · have t1 : decide ((i : Int) < (k5 : Int)) = false := decide_eq_false (by omega)
            have HBW := Lib.hid (HB6.out.trans (HW.out.mono HLW6.out))
            have HROW7 := Lib.hid (HROW6.out.keep HW.out)
            have hpl : p < (opsL l).length := by rw [opsL_len, HN.out]; exact HPN.out
            obtain ⟨x, x1, x2, x3⟩ := tgt_in HNE.out hpl
            obtain ⟨xl1, xl2⟩ := tgt_lim HNE.out hpl x1
            rw [opsL_len, HN.out] at xl2 x3
            rw [← opsL_in] at x2 x3
            obtain ⟨hN2, _⟩ := nested_in HNE.out
            rw [← opsL_in] at hN2
            obtain ⟨ms2, hms2⟩ := dM_some hN2
            obtain ⟨_, _, hP, _, hc1⟩ := sl_cell (HS5.out.keep HW.out) (i := p) (by rw [HK5.out]; exact HPN.out)
            simp only [Option.some.injEq, Addr.mk.injEq, and_true] at hP
            obtain ⟨rfl, rfl⟩ := hP
            rw [HDL.out p HPN.out] at hc1
            have hdb := HDB.out p HPN.out
            obtain ⟨d, hd⟩ : ∃ d, (aroundD (opsL l) p).length = d := ⟨_, rfl⟩
            rw [hd] at hc1 hdb x3
            have HDP := Lib.hid hd
            have hpn := HPN.out
            have C1 := btarget_yes (p := p) (b := 0) (HT.out.keep HBW.out) HN.out (by omega) (HR.out.keep HBW.out) HD.out hpn (by omega)
            have x1 : tgt (opsL l) (p : Int) ((0 : Nat) : Int) = (x, true) := x1
            rw [x1] at C1
            have HC1 := Lib.hid C1
            have x2 : tgt (opsL ([one 2] ++ l ++ [one 11])) ((p + 1 : Nat) : Int) ((0 : Nat) : Int) = (x + 1, true) := x2
            have x3 : tgt (opsL ([one 2] ++ l ++ [one 11])) ((p + 1 : Nat) : Int) ((d + 1 : Nat) : Int) = ((k5 : Int) + 2, true) := x3
            have HX2 := Lib.hid x2
            have HX3 := Lib.hid x3
            have HMS2 := Lib.hid hms2
            have i1 : (0 : Int) ≤ (p : Int) := by omega
            have i2 : (p : Int) < (k5 : Int) := by omega
            have w1 : IntKind.i64.wrap ((p : Int) + 1) = ((p + 1 : Nat) : Int) := by rw [IntWalk.i64_in _ (by omega)]; omega
            have w2 : IntKind.i64.wrap ((d : Int) + 1) = ((d + 1 : Nat) : Int) := by rw [IntWalk.i64_in _ (by omega)]; omega
            have w3 : IntKind.i64.wrap (x + 1) = x + 1 := IntWalk.i64_in _ (by omega)
            have HS5 := Lib.hid (HS5.out.keep HW.out)
            clear x1 x2 x3 hms2 hN2 C1 hd hc1
            go_wp2_with fail
            refine HC1.out.mono ?_
            rintro e w8 ⟨rfl, hb⟩
            have HB8 := Lib.hid (HBW.out.trans (hb.mono HBW.out.size))
            have HROW8 := Lib.hid (HROW7.out.keep hb)
            have HS5 := Lib.hid (HS5.out.keep hb)
            clear hb
            have C2 := btarget_yes (p := p + 1) (b := 0) (HT.out.keep HB8.out) HNN.out (by omega) HROW8.out HMS2.out (by omega) (by omega)
            rw [HX2.out] at C2
            have HC2 := Lib.hid C2
            clear C2
            go_wp2_with fail
            refine HC2.out.mono ?_
            rintro e w9 ⟨rfl, hb⟩
            have HB9 := Lib.hid (HB8.out.trans (hb.mono HB8.out.size))
            have HROW9 := Lib.hid (HROW8.out.keep hb)
            have HS5 := Lib.hid (HS5.out.keep hb)
            clear hb
            have C3 := btarget_yes (p := p + 1) (b := d + 1) (HT.out.keep HB9.out) HNN.out (by omega) HROW9.out HMS2.out (by omega) (by omega)
            rw [HX3.out] at C3
            have HC3 := Lib.hid C3
            clear C3
            obtain ⟨_, _, hP, _, hc1⟩ := sl_cell HS5.out (i := p) (by rw [HK5.out]; exact HPN.out)
            simp only [Option.some.injEq, Addr.mk.injEq, and_true] at hP
            obtain ⟨rfl, rfl⟩ := hP
            rw [HDL.out p HPN.out, HDP.out] at hc1
            go_wp2_with fail
            refine HC3.out.mono ?_
            rintro e w10 ⟨rfl, hb⟩
            have HB10 := Lib.hid (HB9.out.trans (hb.mono HB9.out.size))
            clear hb
            go_wp2_with fail
            exact bodyPost_ret (v := .bool true) (by simp [results, Tryd.results7, go_sem]) rfl ⟨rfl, HB10.out⟩
end Go.Proofs.YtdmidagcdhhlhaaDoor.Bod
