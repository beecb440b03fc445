/- Law BodyIs, walked. -/
import Derived.Test.YtdmidagcdhhlhaaDoorBodAwake
import Derived.Test.YtdmidagcdhhlhaaDoorBodFew
import Derived.Test.YtdmidagcdhhlhaaDoorBodEqual
import Derived.Test.YtdmidagcdhhlhaaDoorBodPutP
import Derived.Test.YtdmidagcdhhlhaaDoorBodReadD
import Derived.Test.YtdmidagcdhhlhaaDoorBodSameP
import Derived.Test.YtdmidagcdhhlhaaDoorBodTheirs
namespace Go.Proofs.YtdmidagcdhhlhaaDoor.Bod
open Go.RowKit Ints Typ Ins
set_option maxRecDepth 100000
set_option maxHeartbeats 4000000
set_option linter.unusedVariables false
def msD (ops : List Int) : List (Int × Int) := (dM ops).getD []
theorem msD_len (ops : List Int) : (msD ops).length ≤ ops.length := by
  unfold msD
  cases hd : dM ops with
  | none => simp
  | some ms =>
    have := (dM_at hd).1
    simp only [Option.getD_some]
    omega
theorem matches_u {l : List (Ins × Value)} {A : Option Addr} {n c : Nat} {w : World} (hT : KTab w) (hn : l.length = n) (hbig : n ≤ 80000) (hr : InRow w (.slice A n c) l) :
    Calls Tryd.prog 11 #[.slice A n c] w fun e w' => (∃ v, e = .returned (.tuple #[v, .bool (dM (opsL l)).isSome]) ∧ OwnP 52 w' w.heap.size v (msD (opsL l))) ∧ Below w.heap.size w w' := by
  refine (matches_any hT hn hbig hr).mono ?_
  rintro e w' ⟨h, hb⟩
  refine ⟨?_, hb⟩
  unfold msD
  cases hd : dM (opsL l) with
  | none =>
    rw [hd] at h
    exact ⟨_, h, ownP_nil _ _ _⟩
  | some ms =>
    rw [hd] at h
    obtain ⟨vM, h1, h2⟩ := h
    exact ⟨vM, h1, h2⟩
theorem rmatches_u {l : List (Ins × Value)} {A : Option Addr} {g off n c : Nat} {w : World} (hn : l.length = n) (hbig : n ≤ 80000) (hA : n ≠ 0 → A = some ⟨g, off, none⟩) (hr : InRow w (.slice A n c) l) :
    Calls Tryd.prog 12 #[.slice A n c] w fun e w' => (∃ v, e = .returned (.tuple #[v, .bool (dM (opsL l)).isSome]) ∧ OwnP 60 w' w.heap.size v (msD (opsL l))) ∧ Below w.heap.size w w' := by
  refine (rmatches_any hn (by omega) hA hr).mono ?_
  rintro e w' ⟨h, hb⟩
  refine ⟨?_, hb⟩
  unfold msD
  cases hd : dM (opsL l) with
  | none =>
    rw [hd] at h
    exact ⟨_, h, ownP_nil _ _ _⟩
  | some ms =>
    rw [hd] at h
    obtain ⟨g1, h1, h2⟩ := h
    exact ⟨_, h1, h2.2⟩
theorem btarget_any {l : List (Ins × Value)} {A : Option Addr} {n c : Nat} {w : World} (hT : KTab w) (hn : l.length = n) (hbig : n ≤ 79000) (hr : InRow w (.slice A n c) l) (a lab : Int) (hlab : lab ≤ 9223372036854775807) :
    Calls Tryd.prog 17 #[.slice A n c, .int .i64 a, .int .i64 lab] w fun e w' => e = .returned (.tuple #[.int .i64 (tgt (opsL l) a lab).1, .bool (tgt (opsL l) a lab).2]) ∧ Below w.heap.size w w' := by
  by_cases hno : dM (opsL l) = none ∨ a < 0 ∨ (n : Int) ≤ a ∨ lab < 0
  · have e : tgt (opsL l) a lab = (0, false) := by
      unfold tgt
      cases hd : dM (opsL l) with
      | none => rfl
      | some ms =>
        simp only
        rw [opsL_len, hn]
        rcases hno with h | h | h | h
        · rw [hd] at h; cases h
        · rw [if_pos (.inl h)]
        · rw [if_pos (.inr h)]
        · split
          · rfl
          · rw [if_pos (.inl h)]
    rw [e]
    exact btarget_no hT hn hbig hr a lab hno
  · cases hd : dM (opsL l) with
    | none => exact absurd (.inl hd) hno
    | some ms =>
      obtain ⟨p, rfl⟩ : ∃ p : Nat, a = (p : Int) := ⟨a.toNat, by omega⟩
      obtain ⟨b, rfl⟩ : ∃ b : Nat, lab = (b : Int) := ⟨lab.toNat, by omega⟩
      exact btarget_yes hT hn hbig hr hd (by omega) hlab
theorem puts_u {l : List (Ins × Value)} {A A0 : Option Addr} {g off n c m c0 : Nat} {b : List Int} {w : World} (hT : KTab w) (hn : l.length = n) (hbig : n ≤ 80000) (hA : n ≠ 0 → A = some ⟨g, off, none⟩) (hr : InRow w (.slice A n c) l) (hm : b.length = m) (hb : Sl w (.slice A0 m c0) b) (hbl : m ≤ 10000) :
    ∃ L e, (∀ W, Below w.heap.size w W → Calls Tryd.prog 15 #[.slice A0 m c0, .slice A n c] W (PutTold L e W)) ∧ (∀ W, Below w.heap.size w W → Calls Tryd.prog 16 #[.slice A0 m c0, .slice A n c] W (PutTold L e W)) := by
  subst hm
  by_cases hS : SaneB l
  · exact ⟨_, _, fun W hW => bputP_yes (hT.keep hW) hn (hr.keep hW) hS (hb.keep hW) hbl, fun W hW => rput_yes hn (by omega) hA (hr.keep hW) hS (hb.keep hW) hbl⟩
  · exact ⟨_, _, fun W hW => bputP_no (hT.keep hW) hn (hr.keep hW) hS, fun W hW => rput_no hn (by omega) hA (hr.keep hW) hS⟩
theorem bis_law (AB : Option Addr) (N cN : Nat) (zb : List Int) (v : Value) (l : List (Ins × Value)) (a pl lab : Int) (W : World) (hT : KTab W) (hr : InRow W v l) (hb : Leb.Came .u8 W AB N cN zb) (hlab : lab ≤ 9223372036854775807) : Calls Tryd.prog 3 #[v, .slice AB N cN, .int .i64 a, .int .i64 pl, .int .i64 lab] W fun e w' => e = .returned (.bool true) ∧ Below W.heap.size W w' := by
  obtain ⟨⟨A, c, rfl, hlc, hc9, hrow⟩, _⟩ := id hr
  obtain ⟨n, hn⟩ : ∃ n, l.length = n := ⟨_, rfl⟩
  have hA : ∃ g off, n ≠ 0 → A = some ⟨g, off, none⟩ := by
    by_cases h0 : l = []
    · exact ⟨0, 0, fun h => absurd (by rw [← hn, h0]; rfl) h⟩
    · obtain ⟨g, off, e, _⟩ := hrow h0
      exact ⟨g, off, fun _ => e⟩
  obtain ⟨g, off, hA⟩ := hA
  rw [hn] at hr hlc ⊢
  obtain ⟨sb, bb⟩ := came_sl hb
  obtain ⟨lb_, _⟩ := came_parts hb
  generalize zb.take N = b at sb bb lb_
  have HN := Lib.hid hn
  have HT := Lib.hid hT
  have HR := Lib.hid hr
  have HA := Lib.hid hA
  have HSB := Lib.hid sb
  have HBB := Lib.hid bb
  have HLB := Lib.hid lb_
  clear hn hT hr hb sb bb lb_ hrow hA
  go_enter Tryd.func3, Tryd.ntmps3
  go_wp2_with fail
  refine (up_any HT.out).mono ?_
  rintro e w1 ⟨rfl, hb⟩
  have HB1 := Lib.hid hb
  clear hb
  go_wp2_with fail
  refine (few_any 120 HN.out (HR.out.keep HB1.out)).mono ?_
  rintro e w2 ⟨⟨bf, rfl, hbf⟩, hww⟩
  subst hww
  cases bf with
  | false =>
    clear hbf
    go_wp2_with fail
    exact bodyPost_ret (v := .bool true) (by simp [results, Tryd.results3, go_sem]) rfl ⟨rfl, HB1.out⟩
  | true =>
    have hfew := (hbf.1 rfl).1
    rw [HN.out] at hfew
    have hn120 : n ≤ 120 := by omega
    clear hfew hbf
    by_cases hN : 600 < N
    · have t1 : decide ((600 : Int) < (N : Int)) = true := decide_eq_true (by omega)
      have t1' : decide (600 < N) = true := decide_eq_true hN
      clear hN
      go_wp2_with fail
      exact bodyPost_ret (v := .bool true) (by simp [results, Tryd.results3, go_sem]) rfl ⟨rfl, HB1.out⟩
    · have t1 : decide ((600 : Int) < (N : Int)) = false := decide_eq_false (by omega)
      have t1' : decide (600 < N) = false := decide_eq_false hN
      obtain ⟨PL, pe, hp1, hp2⟩ := puts_u HT.out HN.out (by omega) HA.out HR.out HLB.out HSB.out (by omega)
      have HP1 := Lib.hid hp1
      have HP2 := Lib.hid hp2
      have hbl : b.length ≤ 1000000 := by rw [HLB.out]; omega
      have HBL := Lib.hid hbl
      obtain ⟨RR, hRR⟩ : ∃ R, prd b 4098 a [] ⟨[], [], []⟩ = R := ⟨_, rfl⟩
      have HRP := Lib.hid hRR
      have HRD := Lib.hid ((prd_drd0 b 4098 a).symm.trans hRR)
      obtain ⟨T, hTT⟩ : ∃ T, tgt (opsL l) pl lab = T := ⟨_, rfl⟩
      have HTT := Lib.hid hTT
      have hml : (msD (opsL l)).length ≤ 80000 := by have := msD_len (opsL l); rw [opsL_len, HN.out] at this; omega
      have HML := Lib.hid hml
      clear hp1 hp2 hbl hRR hTT hml hN
      obtain ⟨Rl, Rn, Re⟩ := RR
      obtain ⟨Tn, Tb⟩ := T
      go_wp2_with fail
      refine (matches_u (HT.out.keep HB1.out) HN.out (by omega) (HR.out.keep HB1.out)).mono ?_
      rintro en w2 ⟨⟨vM, rfl, ho⟩, hb⟩
      have HB2 := Lib.hid (HB1.out.trans (hb.mono HB1.out.size))
      have HM := Lib.hid (ho)
      obtain ⟨PM, cM, hv⟩ := OwnP.form HM.out
      obtain ⟨kM, hk⟩ : ∃ k, (msD (opsL l)).length = k := ⟨_, rfl⟩
      rw [hk] at hv
      subst hv
      clear hk
      clear ho hb
      go_wp2_with fail
      refine (rmatches_u HN.out (by omega) HA.out (HR.out.keep HB2.out)).mono ?_
      rintro en w3 ⟨⟨vN, rfl, ho⟩, hb⟩
      have HB3 := Lib.hid (HB2.out.trans (hb.mono HB2.out.size))
      have HM := Lib.hid (own_keep HM.out hb)
      have HMN := Lib.hid (ho)
      obtain ⟨PN, cN, hv⟩ := OwnP.form HMN.out
      obtain ⟨kN, hk⟩ : ∃ k, (msD (opsL l)).length = k := ⟨_, rfl⟩
      rw [hk] at hv
      subst hv
      clear hk
      clear ho hb
      generalize (dM (opsL l)).isSome = bo
      have C := pbread_any a (HT.out.keep HB3.out) (HSB.out.keep HB3.out) HBB.out HBL.out
      rw [HRP.out] at C
      have HC := Lib.hid C
      clear C
      go_wp2_with fail
      refine (HC.out).mono ?_
      rintro en w4 ⟨vx, lx, rfl, ho, hi, hb⟩
      have HB4 := Lib.hid (HB3.out.trans (hb.mono HB3.out.size))
      have HM := Lib.hid (own_keep HM.out hb)
      have HMN := Lib.hid (own_keep HMN.out hb)
      have HRX := Lib.hid (ho)
      have HIX := Lib.hid hi
      obtain ⟨⟨PX, cX, hv, _⟩, _⟩ := id HRX.out
      obtain ⟨kX, hk⟩ : ∃ k, lx.length = k := ⟨_, rfl⟩
      have HKX := Lib.hid hk
      rw [hk] at hv
      subst hv
      clear ho hi hb hk HC
      have C := dbread_any a (HSB.out.keep HB4.out) HBB.out HBL.out
      rw [HRD.out] at C
      have HC := Lib.hid C
      clear C
      go_wp2_with fail
      refine (HC.out).mono ?_
      rintro en w5 ⟨vy, ly, rfl, ho, hi, hb⟩
      have HB5 := Lib.hid (HB4.out.trans (hb.mono HB4.out.size))
      have HM := Lib.hid (own_keep HM.out hb)
      have HMN := Lib.hid (own_keep HMN.out hb)
      have HRX := Lib.hid (HRX.out.keep hb)
      have HRY := Lib.hid (ho)
      have HIY := Lib.hid hi
      obtain ⟨⟨PY, cY, hv, _⟩, _⟩ := id HRY.out
      obtain ⟨kY, hk⟩ : ∃ k, ly.length = k := ⟨_, rfl⟩
      rw [hk] at hv
      subst hv
      clear ho hi hb hk HC
      go_wp2_with fail
      refine (HP1.out _ HB5.out).mono ?_
      rintro en w6 ⟨vc, rfl, ho, hb⟩
      have HB6 := Lib.hid (HB5.out.trans (hb.mono HB5.out.size))
      have HM := Lib.hid (own_keep HM.out hb)
      have HMN := Lib.hid (own_keep HMN.out hb)
      have HRX := Lib.hid (HRX.out.keep hb)
      have HRY := Lib.hid (HRY.out.keep hb)
      have HSC := Lib.hid (ho)
      obtain ⟨AC, cC, hv, _⟩ := id HSC.out
      obtain ⟨kC, hk⟩ : ∃ k, PL.length = k := ⟨_, rfl⟩
      have HKC := Lib.hid hk
      rw [hk] at hv
      subst hv
      clear ho hb hk
      go_wp2_with fail
      refine (HP2.out _ HB6.out).mono ?_
      rintro en w7 ⟨vd, rfl, ho, hb⟩
      have HB7 := Lib.hid (HB6.out.trans (hb.mono HB6.out.size))
      have HM := Lib.hid (own_keep HM.out hb)
      have HMN := Lib.hid (own_keep HMN.out hb)
      have HRX := Lib.hid (HRX.out.keep hb)
      have HRY := Lib.hid (HRY.out.keep hb)
      have HSC := Lib.hid (HSC.out.keep hb)
      have HSD := Lib.hid (ho)
      obtain ⟨AD, cD, hv, _⟩ := id HSD.out
      rw [HKC.out] at hv
      subst hv
      clear ho hb
      have C := btarget_any (HT.out.keep HB7.out) HN.out (by omega) (HR.out.keep HB7.out) pl lab hlab
      rw [HTT.out] at C
      have HC := Lib.hid C
      clear C
      go_wp2_with fail
      refine (HC.out).mono ?_
      rintro en w8 ⟨rfl, hb⟩
      have HB8 := Lib.hid (HB7.out.trans (hb.mono HB7.out.size))
      have HM := Lib.hid (own_keep HM.out hb)
      have HMN := Lib.hid (own_keep HMN.out hb)
      have HRX := Lib.hid (HRX.out.keep hb)
      have HRY := Lib.hid (HRY.out.keep hb)
      have HSC := Lib.hid (HSC.out.keep hb)
      have HSD := Lib.hid (HSD.out.keep hb)
      clear hb HC
      have C := rtarget_any HN.out (by omega) HA.out (HR.out.keep HB8.out) pl lab
      rw [HTT.out] at C
      have HC := Lib.hid C
      clear C
      go_wp2_with fail
      refine (HC.out).mono ?_
      rintro en w9 ⟨rfl, hb⟩
      have HB9 := Lib.hid (HB8.out.trans (hb.mono HB8.out.size))
      have HM := Lib.hid (own_keep HM.out hb)
      have HMN := Lib.hid (own_keep HMN.out hb)
      have HRX := Lib.hid (HRX.out.keep hb)
      have HRY := Lib.hid (HRY.out.keep hb)
      have HSC := Lib.hid (HSC.out.keep hb)
      have HSD := Lib.hid (HSD.out.keep hb)
      clear hb HC
      go_wp2_with fail
      refine (theirs_any HML.out HM.out).mono ?_
      rintro en w10 ⟨⟨vt, rfl, ho⟩, hb⟩
      have HB10 := Lib.hid (HB9.out.trans (hb.mono HB9.out.size))
      have HM := Lib.hid (own_keep HM.out hb)
      have HMN := Lib.hid (own_keep HMN.out hb)
      have HRX := Lib.hid (HRX.out.keep hb)
      have HRY := Lib.hid (HRY.out.keep hb)
      have HSC := Lib.hid (HSC.out.keep hb)
      have HSD := Lib.hid (HSD.out.keep hb)
      have HTH := Lib.hid (ho)
      obtain ⟨PT, cT, hv⟩ := OwnP.form HTH.out
      obtain ⟨kT, hk⟩ : ∃ k, (msD (opsL l)).length = k := ⟨_, rfl⟩
      rw [hk] at hv
      subst hv
      clear hk
      clear ho hb
      go_wp2_with fail
      refine (equal_any HML.out HTH.out HMN.out).mono ?_
      rintro en w11 ⟨rfl, hb⟩
      have HB11 := Lib.hid (HB10.out.trans (hb.mono HB10.out.size))
      have HM := Lib.hid (own_keep HM.out hb)
      have HMN := Lib.hid (own_keep HMN.out hb)
      have HRX := Lib.hid (HRX.out.keep hb)
      have HRY := Lib.hid (HRY.out.keep hb)
      have HSC := Lib.hid (HSC.out.keep hb)
      have HSD := Lib.hid (HSD.out.keep hb)
      have HTH := Lib.hid (own_keep HTH.out hb)
      clear hb
      go_wp2_with fail
      refine (bsame_any HRX.out HRY.out).mono ?_
      rintro en w12 ⟨⟨q, rfl, hq⟩, hb⟩
      have HB12 := Lib.hid (HB11.out.trans (hb.mono HB11.out.size))
      have HM := Lib.hid (own_keep HM.out hb)
      have HMN := Lib.hid (own_keep HMN.out hb)
      have HRX := Lib.hid (HRX.out.keep hb)
      have HRY := Lib.hid (HRY.out.keep hb)
      have HSC := Lib.hid (HSC.out.keep hb)
      have HSD := Lib.hid (HSD.out.keep hb)
      have HTH := Lib.hid (own_keep HTH.out hb)
      obtain rfl : q = true := hq.2 (HIX.out.trans HIY.out.symm)
      clear hb hq
      have e1 : (convert 23 9 (.slice AC kC cC)).run Tryd.prog w12 = .ok (.string (strOfNums PL)) w12 := sl_txt (by have h := HSC.out; exact h)
      have e2 : (convert 23 9 (.slice AD kC cD)).run Tryd.prog w12 = .ok (.string (strOfNums PL)) w12 := sl_txt (by have h := HSD.out; exact h)
      generalize strOfNums PL = SS at e1 e2
      go_wp2_with fail
      refine (bsaneP_any (HT.out.keep HB12.out) HN.out (HR.out.keep HB12.out)).mono ?_
      rintro en w13 ⟨⟨b1, rfl, hs1⟩, hb⟩
      have HB13 := Lib.hid (HB12.out.trans (hb.mono HB12.out.size))
      have HM := Lib.hid (own_keep HM.out hb)
      have HMN := Lib.hid (own_keep HMN.out hb)
      have HRX := Lib.hid (HRX.out.keep hb)
      have HRY := Lib.hid (HRY.out.keep hb)
      have HSC := Lib.hid (HSC.out.keep hb)
      have HSD := Lib.hid (HSD.out.keep hb)
      have HTH := Lib.hid (own_keep HTH.out hb)
      have HS1 := Lib.hid hs1
      clear hb hs1 e1 e2
      go_wp2_with fail
      refine (rbsane_any HN.out (by omega) HA.out (HR.out.keep HB13.out)).mono ?_
      rintro en w14 ⟨⟨b2, rfl, hs2⟩, hb⟩
      have HB14 := Lib.hid (HB13.out.trans (hb.mono HB13.out.size))
      have HM := Lib.hid (own_keep HM.out hb)
      have HMN := Lib.hid (own_keep HMN.out hb)
      have HRX := Lib.hid (HRX.out.keep hb)
      have HRY := Lib.hid (HRY.out.keep hb)
      have HSC := Lib.hid (HSC.out.keep hb)
      have HSD := Lib.hid (HSD.out.keep hb)
      have HTH := Lib.hid (own_keep HTH.out hb)
      have HS2 := Lib.hid hs2
      clear hb hs2
      have hbb : b1 = b2 := by
        cases b1 with
        | true => exact (HS2.out.2 (HS1.out.1 rfl)).symm
        | false =>
          cases b2 with
          | false => rfl
          | true => exact HS1.out.2 (HS2.out.1 rfl)
      subst hbb
      have tb : (b1 == b1) = true := by simp
      clear HS1 HS2
      go_wp2_with fail
      refine (depths_any (HT.out.keep HB14.out) HN.out (by omega) (HR.out.keep HB14.out)).mono ?_
      rintro en w15 ⟨⟨v1, rfl, ho⟩, hb⟩
      have HB15 := Lib.hid (HB14.out.trans (hb.mono HB14.out.size))
      have HM := Lib.hid (own_keep HM.out hb)
      have HMN := Lib.hid (own_keep HMN.out hb)
      have HRX := Lib.hid (HRX.out.keep hb)
      have HRY := Lib.hid (HRY.out.keep hb)
      have HSC := Lib.hid (HSC.out.keep hb)
      have HSD := Lib.hid (HSD.out.keep hb)
      have HTH := Lib.hid (own_keep HTH.out hb)
      have HD1 := Lib.hid (OwnI.slI ho)
      obtain ⟨P1, c1, hv⟩ := OwnI.form ho
      obtain ⟨k1, hk⟩ : ∃ k, (dDepths (opsL l)).length = k := ⟨_, rfl⟩
      have HK1 := Lib.hid hk
      rw [hk] at hv
      subst hv
      clear ho hb hk
      go_wp2_with fail
      refine (rdepths_any HN.out (by omega) HA.out (HR.out.keep HB15.out)).mono ?_
      rintro en w16 ⟨⟨v2, rfl, ho⟩, hb⟩
      have HB16 := Lib.hid (HB15.out.trans (hb.mono HB15.out.size))
      have HM := Lib.hid (own_keep HM.out hb)
      have HMN := Lib.hid (own_keep HMN.out hb)
      have HRX := Lib.hid (HRX.out.keep hb)
      have HRY := Lib.hid (HRY.out.keep hb)
      have HSC := Lib.hid (HSC.out.keep hb)
      have HSD := Lib.hid (HSD.out.keep hb)
      have HTH := Lib.hid (own_keep HTH.out hb)
      have HD1 := Lib.hid (HD1.out.keep hb)
      have HD2 := Lib.hid (OwnI.slI ho)
      obtain ⟨P2, c2', hv⟩ := OwnI.form ho
      rw [HK1.out] at hv
      subst hv
      clear ho hb
      go_wp2_with fail
      refine (ints_any HD1.out HD2.out).mono ?_
      rintro en w17 ⟨rfl, hb⟩
      have HB17 := Lib.hid (HB16.out.trans (hb.mono HB16.out.size))
      have HM := Lib.hid (own_keep HM.out hb)
      have HMN := Lib.hid (own_keep HMN.out hb)
      have HRX := Lib.hid (HRX.out.keep hb)
      have HRY := Lib.hid (HRY.out.keep hb)
      have HSC := Lib.hid (HSC.out.keep hb)
      have HSD := Lib.hid (HSD.out.keep hb)
      have HTH := Lib.hid (own_keep HTH.out hb)
      have HD1 := Lib.hid (HD1.out.keep hb)
      have HD2 := Lib.hid (HD2.out.keep hb)
      rw [decide_eq_true rfl]
      clear hb
      go_wp2_with fail
      refine (bsameP_any (by rw [HN.out]; omega) (HR.out.keep HB17.out) HRX.out).mono ?_
      rintro en w18 ⟨⟨q1, rfl, hq1⟩, hb⟩
      have HB18 := Lib.hid (HB17.out.trans (hb.mono HB17.out.size))
      have HM := Lib.hid (own_keep HM.out hb)
      have HMN := Lib.hid (own_keep HMN.out hb)
      have HRX := Lib.hid (HRX.out.keep hb)
      have HRY := Lib.hid (HRY.out.keep hb)
      have HSC := Lib.hid (HSC.out.keep hb)
      have HSD := Lib.hid (HSD.out.keep hb)
      have HTH := Lib.hid (own_keep HTH.out hb)
      have HD1 := Lib.hid (HD1.out.keep hb)
      have HD2 := Lib.hid (HD2.out.keep hb)
      have HQ1 := Lib.hid hq1
      clear hb hq1
      go_wp2_with fail
      refine (bsame_any (HR.out.keep HB18.out) HRY.out).mono ?_
      rintro en w19 ⟨⟨q2, rfl, hq2⟩, hb⟩
      have HB19 := Lib.hid (HB18.out.trans (hb.mono HB18.out.size))
      have HM := Lib.hid (own_keep HM.out hb)
      have HMN := Lib.hid (own_keep HMN.out hb)
      have HRX := Lib.hid (HRX.out.keep hb)
      have HRY := Lib.hid (HRY.out.keep hb)
      have HSC := Lib.hid (HSC.out.keep hb)
      have HSD := Lib.hid (HSD.out.keep hb)
      have HTH := Lib.hid (own_keep HTH.out hb)
      have HD1 := Lib.hid (HD1.out.keep hb)
      have HD2 := Lib.hid (HD2.out.keep hb)
      have HQ2 := Lib.hid hq2
      clear hb hq2
      have hxy : insL lx = insL ly := HIX.out.trans HIY.out.symm
      have hqq : q1 = q2 := by
        cases q1 with
        | true => exact (HQ2.out.2 ((HQ1.out.1 rfl).trans hxy)).symm
        | false =>
          cases q2 with
          | false => rfl
          | true => exact HQ1.out.2 ((HQ2.out.1 rfl).trans hxy.symm)
      subst hqq
      have tq : (q1 == q1) = true := by simp
      clear HQ1 HQ2 hxy
      go_wp2_with fail
      exact bodyPost_ret (v := .bool true) (by simp [results, Tryd.results3, go_sem]) rfl ⟨rfl, HB19.out⟩
end Go.Proofs.YtdmidagcdhhlhaaDoor.Bod
