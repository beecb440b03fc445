/- Law BodyTargets, walked. -/
import Derived.Test.YtdmidagcdhhlhaaDoorBodAwake
import Derived.Test.YtdmidagcdhhlhaaDoorBodFew
namespace Go.Proofs.YtdmidagcdhhlhaaDoor.Bod
open Go.RowKit Ints Typ Ins
set_option maxRecDepth 100000
set_option maxHeartbeats 4000000
set_option linter.unusedVariables false
theorem bits_mask (a : Int) (M : Nat) (hM : M < 9223372036854775808) : ∃ m : Nat, bits .and .i64 a (M : Int) = (m : Int) ∧ m ≤ M := by
  have h1 : (BitVec.ofInt 64 a &&& BitVec.ofInt 64 (M : Int)).toNat ≤ M := by
    rw [BitVec.toNat_and]
    refine Nat.le_trans Nat.and_le_right ?_
    rw [BitVec.toNat_ofInt]
    omega
  refine ⟨(BitVec.ofInt 64 a &&& BitVec.ofInt 64 (M : Int)).toNat, ?_, h1⟩
  show IntKind.i64.wrap (((BitVec.ofInt 64 a &&& BitVec.ofInt 64 (M : Int)).toNat : Nat) : Int) = _
  exact IntWalk.i64_in _ (by omega)
theorem btargets_law (v : Value) (l : List (Ins × Value)) (a lab : Int) (W : World) (hT : KTab W) (hr : InRow W v l) : Calls Tryd.prog 6 #[v, .int .i64 a, .int .i64 lab] W fun e w' => e = .returned (.bool true) ∧ Below W.heap.size W w' := by
  obtain ⟨⟨A, c, rfl, hlc, hc9, _⟩, _⟩ := id hr
  obtain ⟨n, hn⟩ : ∃ n, l.length = n := ⟨_, rfl⟩
  rw [hn] at hr hlc ⊢
  have HN := Lib.hid hn
  have HT := Lib.hid hT
  have HR := Lib.hid hr
  obtain ⟨m, hm, hm2⟩ := bits_mask a 65535 (by decide)
  obtain ⟨b, hb, hb2⟩ := bits_mask lab 63 (by decide)
  have hm : bits .and .i64 a 65535 = (m : Int) := hm
  have hbm : bits .and .i64 lab 63 = (b : Int) := hb
  clear hn hT hr hb
  go_enter Tryd.func6, Tryd.ntmps6
  go_wp2_with fail
  refine (up_any HT.out).mono ?_
  rintro e w1 ⟨rfl, hb⟩
  have HB1 := Lib.hid hb
  clear hb
  go_wp2_with fail
  refine (few_any 120 HN.out (HR.out.keep HB1.out)).mono ?_
  rintro e w2 ⟨⟨bf, rfl, hbf⟩, hww⟩
  subst hww
  have HB2 := HB1
  cases bf with
  | false =>
    go_wp2_with fail
    exact bodyPost_ret (v := .bool true) (by simp [results, Tryd.results6, go_sem]) rfl ⟨rfl, HB2.out⟩
  | true =>
    have hfew := (hbf.1 rfl).1
    rw [HN.out] at hfew
    have hn120 : n ≤ 120 := by omega
    clear hfew hbf
    cases n with
    | zero =>
      go_wp2_with fail
      exact bodyPost_ret (v := .bool true) (by simp [results, Tryd.results6, go_sem]) rfl ⟨rfl, HB2.out⟩
    | succ n' =>
      obtain ⟨n, hnn⟩ : ∃ n, n' + 1 = n := ⟨_, rfl⟩
      have hz : ((n : Int) == 0) = false := by simp; omega
      have hn0 : n ≠ 0 := by omega
      rw [hnn] at HN HR hn120 hlc ⊢
      clear hnn
      go_wp2_with fail
      refine (depths_any (HT.out.keep HB2.out) HN.out (by omega) (HR.out.keep HB2.out)).mono ?_
      rintro e w3 ⟨⟨v, rfl, ho⟩, hb⟩
      have HB3 := Lib.hid (HB2.out.trans (hb.mono HB2.out.size))
      cases hd : dM (opsL l) with
      | none =>
        have hdd : dDepths (opsL l) = [] := by unfold dDepths; rw [hd]
        rw [hdd] at ho
        obtain ⟨Pd, cd, rfl⟩ := OwnI.form ho
        have t1 : ((0 : Int) != (n : Int)) = true := by simp; omega
        have t1' : (0 != n) = true := by simp; omega
        clear hd hdd ho hb
        go_wp2_with fail
        exact bodyPost_ret (v := .bool true) (by simp [results, Tryd.results6, go_sem]) rfl ⟨rfl, HB3.out⟩
      | some ms =>
        have hdd : dDepths (opsL l) = depL (opsL l) n := by unfold dDepths; rw [hd, opsL_len, HN.out]
        rw [hdd] at ho
        have hdl : (depL (opsL l) n).length = n := by simp [depL]
        obtain ⟨Pd, cd, hv⟩ := OwnI.form ho
        rw [hdl] at hv
        subst hv
        obtain ⟨p, hp⟩ : ∃ p, m % n = p := ⟨_, rfl⟩
        have hpn : p < n := by rw [← hp]; exact Nat.mod_lt _ (by omega)
        have hr1 : (m : Int).tmod (n : Int) = (p : Int) := by rw [← hp]; rfl
        have hr2 : IntKind.i64.wrap (p : Int) = (p : Int) := IntWalk.i64_in _ (by omega)
        have HD := Lib.hid hd
        have HO := Lib.hid (OwnI.slI ho)
        have HDL := Lib.hid hdl
        have HOUT := Lib.hid (tgt_out (dM_nested hd) (p := p) (n := b) (by rw [opsL_len, HN.out]; exact hpn))
        have HCT := Lib.hid (btarget_yes (b := b) (p := p) (HT.out.keep HB3.out) HN.out (by omega) (HR.out.keep HB3.out) hd hpn (by omega))
        clear hd hdd ho hb hdl
        go_wp2_with fail
        refine HCT.out.mono ?_
        rintro e w4 ⟨rfl, hb⟩
        have HB4 := Lib.hid (HB3.out.trans (hb.mono HB3.out.size))
        have HO := Lib.hid (HO.out.keep hb)
        have HRW := Lib.hid (HR.out.keep HB4.out)
        obtain ⟨gd, od, hPd, _, hcl⟩ := sl_cell HO.out (i := p) (by rw [HDL.out]; exact hpn)
        rw [depL_get _ hpn] at hcl
        subst hPd
        obtain ⟨d, hdp⟩ : ∃ d, (aroundD (opsL l) p).length = d := ⟨_, rfl⟩
        have hdn : d ≤ n := by
          have h1 := arL_len (arF (opsL l) ms p) p 0
          rw [ar_is HD.out (by rw [opsL_len, HN.out]; exact hpn), hdp] at h1
          omega
        rw [hdp] at hcl
        have HOU := HOUT.out
        rw [hdp] at HOU
        obtain ⟨o1, o2, o3⟩ := HOU
        rw [opsL_len, HN.out] at o2 o3
        have i1 : (0 : Int) ≤ (p : Int) := by omega
        have i2 : (p : Int) < (n : Int) := by omega
        clear hb HCT HOUT hr1 hm hbm hp
        by_cases g1 : d < b
        · rw [o1 g1]
          have t1 : decide ((b : Int) ≤ (d : Int)) = false := decide_eq_false (by omega)
          have t1' : decide (b ≤ d) = false := decide_eq_false (by omega)
          clear o1 o2 o3 g1 hdp
          go_wp2_with fail
          exact bodyPost_ret (v := .bool true) (by simp [results, Tryd.results6, go_sem]) rfl ⟨rfl, HB4.out⟩
        · have t1 : decide ((b : Int) ≤ (d : Int)) = true := decide_eq_true (by omega)
          have t1' : decide (b ≤ d) = true := decide_eq_true (by omega)
          by_cases g2 : b = d
          · rw [o2 g2]
            have t2 : ((b : Int) == (d : Int)) = true := by simp; omega
            clear o1 o2 o3 g1 hdp
            subst g2
            go_wp2_with fail
            exact bodyPost_ret (v := .bool true) (by simp [results, Tryd.results6, go_sem]) rfl ⟨rfl, HB4.out⟩
          · obtain ⟨t, e1, e2, e3, e4⟩ := o3 (by omega)
            rw [e1]
            have t2 : ((b : Int) == (d : Int)) = false := by simp; omega
            have t2' : (b == d) = false := by simp; omega
            obtain ⟨gd2, od2, hPd, _, hct⟩ := sl_cell HO.out (i := t) (by rw [HDL.out]; exact e2)
            rw [depL_get _ e2] at hct
            simp only [Option.some.injEq, Addr.mk.injEq, and_true] at hPd
            obtain ⟨rfl, rfl⟩ := hPd
            have hdt : (((aroundD (opsL l) t).length : Nat) : Int) = (d : Int) - (b : Int) - 1 := by omega
            have w1 : IntKind.i64.wrap ((d : Int) - (b : Int)) = (d : Int) - (b : Int) := IntWalk.i64_in _ (by omega)
            have w2 : IntKind.i64.wrap ((d : Int) - (b : Int) - 1) = (d : Int) - (b : Int) - 1 := IntWalk.i64_in _ (by omega)
            rw [hdt] at hct
            have t3 : decide ((t : Int) < 0) = false := decide_eq_false (by omega)
            have t4 : decide ((n : Int) ≤ (t : Int)) = false := decide_eq_false (by omega)
            have t4' : decide (n ≤ t) = false := decide_eq_false (by omega)
            have i3 : (0 : Int) ≤ (t : Int) := by omega
            have i4 : (t : Int) < (n : Int) := by omega
            obtain ⟨y, hy⟩ : ∃ y, l[t]? = some y := ⟨_, List.getElem?_eq_getElem (by rw [HN.out]; exact e2)⟩
            obtain ⟨g, off, rfl, hC, _⟩ := HRW.out.at_ hy
            have hG := opsL_get hy
            obtain ⟨x, ov⟩ := y
            obtain ⟨q1, _, _, _, _⟩ := hC
            simp only at q1 hG
            rw [hG] at e4
            clear o1 o2 o3 g1 hdp e1 hdt hy hG
            rcases e4 with ⟨e4, e5⟩ | ⟨e4, e5⟩
            · rw [e4] at q1
              have t5 : decide ((p : Int) < (t : Int)) = true := decide_eq_true (by omega)
              have t5' : decide (p < t) = true := decide_eq_true (by omega)
              go_wp2_with fail
              go_big_quiet (fail)
              go_wp2_with fail
              exact bodyPost_ret (v := .bool true) (by simp [results, Tryd.results6, go_sem]) rfl ⟨rfl, HB4.out.trans (drewNB _ nq HB4.out.size)⟩
            · rw [e4] at q1
              have t5 : decide ((t : Int) < (p : Int)) = true := decide_eq_true (by omega)
              have t5' : decide (t < p) = true := decide_eq_true (by omega)
              go_wp2_with fail
              go_big_quiet (fail)
              go_wp2_with fail
              exact bodyPost_ret (v := .bool true) (by simp [results, Tryd.results6, go_sem]) rfl ⟨rfl, HB4.out.trans (drewNB _ nq HB4.out.size)⟩
end Go.Proofs.YtdmidagcdhhlhaaDoor.Bod
