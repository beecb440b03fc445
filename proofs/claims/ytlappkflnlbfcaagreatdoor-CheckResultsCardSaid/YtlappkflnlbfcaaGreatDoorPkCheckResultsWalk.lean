/- CheckLeavesWalk, CheckResultsWalk. -/
import Derived.Test.YtlappkflnlbfcaaGreatDoorPkChkEnvC
import Derived.Test.YtlappkflnlbfcaaGreatDoorPkChkResF
section
/- Law CheckLeaves, walked (gen_ckleaves.py). -/
namespace Go.Proofs.YtlappkflnlbfcaaGreatDoor.Chk
open Go.RowKit Row9 Stk
set_option maxRecDepth 100000
set_option maxHeartbeats 8000000
set_option linter.unusedVariables false
theorem leaves_law (hC : EnvC) (v : Value) (V : EV) (E : EnvP) (l : List (Ins.Ins × Value)) (W : World) (hK : Ins.KTab W) (hA : Ins.ATab W) (h0 : EnvOk elGD W V E) (hr : Ins.InRow W v l) : Calls Tryz.prog 5 #[evV V E, v] W fun e w' => e = .returned (.bool true) ∧ Below W.heap.size W w' := by
  obtain ⟨⟨A, c, rfl, hlc, hc9, hpl⟩, _⟩ := id hr
  obtain ⟨n, hn⟩ : ∃ n, l.length = n := ⟨_, rfl⟩
  rw [hn] at hr hlc ⊢
  obtain ⟨g0, off0, hA0⟩ : ∃ g off, n ≠ 0 → A = some ⟨g, off, none⟩ := by
    by_cases hl : l = []
    · exact ⟨0, 0, fun h => absurd (by rw [← hn, hl]; rfl) h⟩
    · obtain ⟨g, off, e, _⟩ := hpl hl
      exact ⟨g, off, fun _ => e⟩
  have HA0 := Lib.hid hA0
  have HN := Lib.hid hn
  have HK := Lib.hid hK
  have HA := Lib.hid hA
  have HE := Lib.hid h0
  have HR := Lib.hid hr
  have HC := Lib.hid hC
  have HB0 := Lib.hid (below_new W (.cells #[.slice V.Pt V.nt V.ct, .slice V.Pf V.nf V.cf, .int .i64 E.tables, .int .i64 E.mems, .slice V.Pg V.ng V.cg, .slice V.Pl V.nl V.cl, .slice V.Pr V.nr V.cr] 27))
  have HX0 := Lib.hid (heap_new W (.cells #[.slice V.Pt V.nt V.ct, .slice V.Pf V.nf V.cf, .int .i64 E.tables, .int .i64 E.mems, .slice V.Pg V.ng V.cg, .slice V.Pl V.nl V.cl, .slice V.Pr V.nr V.cr] 27))
  clear hA0 hn hK hA h0 hr hC hpl hlc hc9
  show Calls _ _ #[(.agg #[.slice V.Pt V.nt V.ct, .slice V.Pf V.nf V.cf, .int .i64 E.tables, .int .i64 E.mems, .slice V.Pg V.ng V.cg, .slice V.Pl V.nl V.cl, .slice V.Pr V.nr V.cr]), .slice A n c] _ _
  go_enter Tryz.func5, Tryz.ntmps5
  go_wp2_with fail
  refine (awake_any (HK.out.keep HB0.out) (HA.out.keep HB0.out)).mono ?_
  rintro e w1 ⟨rfl, hb⟩
  have HB1 := Lib.hid (HB0.out.trans (hb.mono HB0.out.size))
  have HX1 := Lib.hid (blk HX0.out hb)
  clear hb HB0 HX0
  obtain ⟨x, hx⟩ : ∃ x, W.heap.size = x := ⟨_, rfl⟩
  rw [hx] at HX1
  simp only [hx]
  obtain ⟨a0, a1, a2, a3, a4, a5, a6⟩ := cells7b HX1.out
  have xl : x < w1.heap.size := lt_of_heap HX1.out
  go_wp2_with fail
  refine (small_any (HE.out.keep HB1.out)).mono ?_
  rintro e w2 ⟨rfl, hb⟩
  have HB2 := Lib.hid (HB1.out.trans (hb.mono HB1.out.size))
  have HX2 := Lib.hid (blk HX1.out hb)
  clear hb HB1 HX1 a0 a1 a2 a3 a4 a5 a6 xl
  cases hs : smallE E with
  | false =>
    go_wp2_with fail
    exact bodyPost_ret (v := .bool true) (by simp [results, Tryz.results5, go_sem]) rfl ⟨rfl, HB2.out⟩
  | true =>
    obtain ⟨hF, hG, hRl⟩ := small_bd hs
    have HF := Lib.hid hF
    have HG := Lib.hid hG
    clear hs hF hG hRl
    go_wp2_with fail
    refine (Bod.few_any 120 HN.out (HR.out.keep HB2.out)).mono ?_
    rintro e w3 ⟨⟨bf, rfl, hbf⟩, hww⟩
    subst hww
    cases bf with
    | false =>
      go_wp2_with fail
      exact bodyPost_ret (v := .bool true) (by simp [results, Tryz.results5, go_sem]) rfl ⟨rfl, HB2.out⟩
    | true =>
      have hfew := (hbf.1 rfl).1
      rw [HN.out] at hfew
      have hn120 : n ≤ 120 := by omega
      clear hfew hbf
      obtain ⟨a0, a1, a2, a3, a4, a5, a6⟩ := cells7b HX2.out
      have xl : x < w3.heap.size := lt_of_heap HX2.out
      go_wp2_with fail
      refine (HC.out w3 V E (HE.out.keep HB2.out) HG.out).mono ?_
      rintro e w4 ⟨⟨V1, rfl, hev⟩, hb⟩
      have HB4 := Lib.hid (HB2.out.trans (hb.mono HB2.out.size))
      have HX4 := Lib.hid (blk HX2.out hb)
      have HEV := Lib.hid hev
      clear hb hev HB2 HX2 a0 a1 a2 a3 a4 a5 a6 xl
      go_wp2_with fail
      refine (pathV_any HEV.out (HR.out.keep HB4.out) (HK.out.keep HB4.out) (HA.out.keep HB4.out) HF.out HN.out (by omega)).mono ?_
      rintro e w5 ⟨P, np, cp, rfl, hpv, hb⟩
      have HB5 := Lib.hid (HB4.out.trans (hb.mono HB4.out.size))
      have HX5 := Lib.hid (blk HX4.out hb)
      have HPV := Lib.hid hpv
      obtain ⟨f, hf⟩ : ∃ f, (pathR E (l.map (·.1))).2 = f := ⟨_, rfl⟩
      have HFF := Lib.hid hf
      rw [hf]
      clear hb hpv hf HB4 HX4 HEV
      go_wp2_with fail
      refine (Bod.rdepths_any HN.out (by omega) HA0.out (HR.out.keep HB5.out)).mono ?_
      rintro e w6 ⟨⟨vd, rfl, hod⟩, hb⟩
      obtain ⟨Pd, cd, rfl⟩ := Ins.OwnI.form hod
      obtain ⟨nd, hnd⟩ : ∃ nd, (Bod.dDepths (Bod.opsL l)).length = nd := ⟨_, rfl⟩
      rw [hnd] at hod
      have HND := Lib.hid hnd
      have HOD := Lib.hid hod
      rw [hnd]
      have HB6 := Lib.hid (HB5.out.trans (hb.mono HB5.out.size))
      have HX6 := Lib.hid (blk HX5.out hb)
      have HPV := Lib.hid (HPV.out.keep hb)
      clear hb hod hnd HB5 HX5
      obtain ⟨a0, a1, a2, a3, a4, a5, a6⟩ := cells7b HX6.out
      have xl : x < w6.heap.size := lt_of_heap HX6.out
      go_wp2_with fail
      refine (HC.out w6 V E (HE.out.keep HB6.out) HG.out).mono ?_
      rintro e w7 ⟨⟨V2, rfl, hev⟩, hb⟩
      have HB7 := Lib.hid (HB6.out.trans (hb.mono HB6.out.size))
      have HX7 := Lib.hid (blk HX6.out hb)
      have HEV := Lib.hid hev
      have HPV := Lib.hid (HPV.out.keep hb)
      have HOD := Lib.hid (show Ins.OwnI w7 w5.heap.size (.slice Pd nd cd) _ from own_keep HOD.out hb)
      clear hb hev HB6 HX6 a0 a1 a2 a3 a4 a5 a6 xl
      go_wp2_with fail
      refine (body_any HEV.out (HR.out.keep HB7.out) (HK.out.keep HB7.out) (HA.out.keep HB7.out) HF.out HN.out (by omega)).mono ?_
      rintro e w8 ⟨rfl, hb⟩
      have HB8 := Lib.hid (HB7.out.trans (hb.mono HB7.out.size))
      have HX8 := Lib.hid (blk HX7.out hb)
      have HPV := Lib.hid (HPV.out.keep hb)
      have HOD := Lib.hid (show Ins.OwnI w8 w5.heap.size (.slice Pd nd cd) _ from own_keep HOD.out hb)
      clear hb HB7 HX7 HEV
      obtain ⟨bR, hbR⟩ : ∃ b, bodyR E (l.map (·.1)) = b := ⟨_, rfl⟩
      rw [hbR]
      by_cases hz : bR = 0
      · subst hz
        obtain ⟨hp0, al, hal, hsl, hvl, dl, hcl, hrl⟩ := leaves hbR
        obtain ⟨hN1, _, _, hpl⟩ := path_ok hp0
        rw [HFF.out] at hp0
        obtain ⟨rows, hrow, hmap, hnp⟩ := HPV.out.1 (by rw [HFF.out]; exact hp0)
        rw [hpl, List.length_map, HN.out] at hnp
        have hndn : nd = n := by
          rw [← HND.out, ← opsP_is, dep_n hN1, opsP_len, List.length_map, HN.out]
        subst hp0 hnp hndn
        rw [List.length_map, HN.out] at hal
        have HRW := Lib.hid hrow
        have HMP := Lib.hid hmap
        have HN1 := Lib.hid hN1
        have HAL := Lib.hid hal
        have HCL := Lib.hid hcl
        have HRL := Lib.hid hrl
        have HVL := Lib.hid hvl
        have hw1 : IntKind.i64.wrap ((nd : Int) + 1) = (nd : Int) + 1 := IntWalk.i64_in _ (by omega)
        clear hbR hal hsl hvl hcl hrl hN1 hpl hrow hmap
        go_wp2_with fail
        go_loopw [9] (fun k' wr => ∃ k : Nat, k' = .int .i64 (k : Int) ∧ k ≤ nd ∧ Below w8.heap.size w8 wr) (fun k' _ => nd - (intOf k').toNat)
        case atStart => exact ⟨0, by go_num, Nat.zero_le _, Below.refl _ _⟩
        case round =>
          obtain ⟨k, rfl, hk, hbe⟩ := hrel
          have HBe := Lib.hid hbe
          have HBW := Lib.hid (HB8.out.trans (hbe.mono HB8.out.size))
          clear hbe
          by_cases hlt : k < nd
          · obtain ⟨p, hp⟩ : ∃ p, l[k]? = some p := ⟨_, List.getElem?_eq_getElem (by rw [HN.out]; exact hlt)⟩
            have hpi : (l.map (·.1))[k]? = some p.1 := by rw [List.getElem?_map, hp]; rfl
            obtain ⟨a, ha, hsa, hda⟩ := path_depth HFF.out hpi
            obtain ⟨g1, off1, Pv, cv, Pc, cc, lc, rfl, hg1, k0, k1, hrv, hrc, hlc⟩ := stk_at (HRW.out.keep HBe.out) HMP.out ha
            obtain ⟨g2, off2, hAe, ⟨i0, _⟩, _⟩ := (HR.out.keep HBW.out).at_ hp
            subst hAe
            obtain ⟨g3, rfl, hg3, j0⟩ := ownI_at (x := (((Bod.aroundD (opsP (l.map (·.1))) k).length : Nat) : Int)) (show Ins.OwnI wr w5.heap.size (.slice Pd nd cd) _ from own_keep HOD.out HBe.out) (by rw [← opsP_is]; exact dep_at HN1.out (k := k) (by rw [opsP_len, List.length_map, HN.out]; exact hlt))
            skip
            obtain ⟨dk, hdk⟩ : ∃ d, (Bod.aroundD (opsP (l.map (·.1))) k).length = d := ⟨_, rfl⟩
            rw [hdk] at hda j0
            have hcc := hrc.form
            obtain ⟨_, _, e9, hc1, hc2⟩ := hcc
            have hlcl : lc.length = a.cs.length := by rw [← hlc, List.length_map]
            have HSN := Lib.hid (Sane_st (stk_is hrv hrc hlc))
            have HSA := Lib.hid hsa
            obtain ⟨na, hna⟩ : ∃ na, a.cs.length = na := ⟨_, rfl⟩
            obtain ⟨nv, hnv⟩ : ∃ nv, a.vals.length = nv := ⟨_, rfl⟩
            rw [hna] at k1 hda HSN
            rw [hnv] at k0 HSN
            obtain ⟨op, hop⟩ : ∃ op, p.1.op = op := ⟨_, rfl⟩
            rw [hop] at i0 hda
            obtain ⟨q1, hq1⟩ : ∃ q, off1 + k * 2 = q := ⟨_, rfl⟩
            rw [hq1] at k0 k1
            obtain ⟨q2, hq2⟩ : ∃ q, off2 + k * 5 = q := ⟨_, rfl⟩
            rw [hq2] at i0
            have y1 : (0 : Int) ≤ (k : Int) := by omega
            have y2 : (k : Int) < (nd : Int) := by omega
            have y3 : (k : Int) < ((nd + 1 : Nat) : Int) := by omega
            have y4 : (k : Int) < (nd : Int) + 1 := by omega
            have hna2 : na ≤ 9223372036854775807 := by omega
            have hw2 : IntKind.i64.wrap ((dk : Int) + 1) = (dk : Int) + 1 := IntWalk.i64_in _ (by split at hda <;> omega)
            have hw3 : IntKind.i64.wrap ((k : Int) + 1) = (k : Int) + 1 := IntWalk.i64_in _ (by omega)
            clear hp hpi ha hsa hlc hrv hrc hdk e9 hc1 hc2 hlcl hna hnv hop hg1 hg3
            by_cases h5 : op = 5
            · subst h5
              rw [if_pos (.inl rfl)] at hda
              have hw4 : IntKind.i64.wrap ((dk : Int) + 1 + 1) = (dk : Int) + 1 + 1 := IntWalk.i64_in _ (by omega)
              have hne : ((na : Int) != (dk : Int) + 1 + 1) = false := by simp; omega
              clear hda hna2
              go_wp2_with fail
              refine HSN.out.mono ?_
              rintro e w9 ⟨rfl, hb⟩
              rw [HSA.out]
              have HB9 := Lib.hid (HBe.out.trans (hb.mono HBe.out.size))
              clear hb k0 k1 i0 j0
              go_wp2_with fail
              go_roundw
              case rel => exact ⟨k + 1, by go_num, hlt, HB9.out⟩
              case measure => simp [intOf]; omega
            · by_cases h11 : op = 11
              · subst h11
                rw [if_pos (.inr rfl)] at hda
                have hw4 : IntKind.i64.wrap ((dk : Int) + 1 + 1) = (dk : Int) + 1 + 1 := IntWalk.i64_in _ (by omega)
                have hne : ((na : Int) != (dk : Int) + 1 + 1) = false := by simp; omega
                clear hda hna2 h5
                go_wp2_with fail
                refine HSN.out.mono ?_
                rintro e w9 ⟨rfl, hb⟩
                rw [HSA.out]
                have HB9 := Lib.hid (HBe.out.trans (hb.mono HBe.out.size))
                clear hb k0 k1 i0 j0
                go_wp2_with fail
                go_roundw
                case rel => exact ⟨k + 1, by go_num, hlt, HB9.out⟩
                case measure => simp [intOf]; omega
              · rw [if_neg (by omega)] at hda
                have t5 : (op == 5) = false := by simpa using h5
                have t11 : (op == 11) = false := by simpa using h11
                have hne : ((na : Int) != (dk : Int) + 1) = false := by simp; omega
                clear hda hna2 h5 h11
                go_wp2_with fail
                refine HSN.out.mono ?_
                rintro e w9 ⟨rfl, hb⟩
                rw [HSA.out]
                have HB9 := Lib.hid (HBe.out.trans (hb.mono HBe.out.size))
                clear hb k0 k1 i0 j0
                go_wp2_with fail
                go_roundw
                case rel => exact ⟨k + 1, by go_num, hlt, HB9.out⟩
                case measure => simp [intOf]; omega
          · obtain rfl : k = nd := by omega
            have hcs1 : al.cs.length = 1 := by rw [HCL.out]; rfl
            obtain ⟨g1, off1, Pv, cv, Pc, cc, lc, rfl, hg1, k0, k1, hrv, hrc, hlc⟩ := stk_at (HRW.out.keep HBe.out) HMP.out HAL.out
            rw [hcs1] at k1 hrc
            have hnr : V.nr = E.results.length := by
              obtain ⟨_, _, e, _⟩ := HE.out.r.form
              injection e
            obtain ⟨pc, hpc, hpe⟩ : ∃ pc, lc[0]? = some pc ∧ pc.1 = ⟨2, E.results, 0, dl⟩ := by
              have h1 : (lc.map (·.1))[0]? = some ⟨2, E.results, 0, dl⟩ := by rw [hlc, HCL.out]; rfl
              rw [List.getElem?_map] at h1
              cases hq : lc[0]? with
              | none => rw [hq] at h1; cases h1
              | some pc => rw [hq] at h1; exact ⟨pc, rfl, Option.some.inj h1⟩
            obtain ⟨gc, offc, rfl, hgc, _⟩ := ctl_at hrc hpc
            have HBN := Lib.hid (below_new wr (.cells #[.slice Pv al.vals.length cv, .slice (some ⟨gc, offc, none⟩) 1 cc] 39))
            have HBX := Lib.hid (heap_new wr (.cells #[.slice Pv al.vals.length cv, .slice (some ⟨gc, offc, none⟩) 1 cc] 39))
            have HX9 := Lib.hid (blk (blk HX8.out HBe.out) HBN.out)
            obtain ⟨gc', offc', ec, _, _, _, _, d3, _⟩ := ctl_at (hrc.keep HBN.out) hpc
            simp only [Option.some.injEq, Addr.mk.injEq, and_true] at ec
            obtain ⟨rfl, rfl⟩ := ec
            rw [hpe] at d3
            simp only [Nat.zero_mul, Nat.add_zero] at d3
            have HRV2 : Hid (∀ l', al.vals = l' → Row elB (wr.alloc (.cells #[.slice Pv al.vals.length cv, .slice (some ⟨gc, offc, none⟩) 1 cc] 39)) (.slice Pv al.vals.length cv) l') := by
              intro l' e
              subst e
              exact hrv.keep HBN.out
            have ct2 := run_txt (HE.out.r.keep (HBW.out.trans (HBN.out.mono HBW.out.size)))
            have HB9 := Lib.hid (HBW.out.trans (HBN.out.mono HBW.out.size))
            obtain ⟨b0, b1⟩ := cells2 HBX.out
            obtain ⟨a0, a1, a2, a3, a4, a5, a6⟩ := cells7b HX9.out
            have xl : x < (wr.alloc (.cells #[.slice Pv al.vals.length cv, .slice (some ⟨gc, offc, none⟩) 1 cc] 39)).heap.size := lt_of_heap HX9.out
            have bl := lt_of_heap HBX.out
            have hgt : decide ((V.nr : Int) < (al.vals.length : Int)) = false := decide_eq_false (by have := HVL.out; omega)
            have hgt2 : decide (V.nr < al.vals.length) = false := decide_eq_false (by have := HVL.out; omega)
            obtain ⟨q1, hq1⟩ : ∃ q, off1 + k * 2 = q := ⟨_, rfl⟩
            rw [hq1] at k0 k1
            have y1 : (0 : Int) ≤ (k : Int) := by omega
            have y3 : (k : Int) < ((k + 1 : Nat) : Int) := by omega
            have y4 : (k : Int) < (k : Int) + 1 := by omega
            have HRL2 : Hid (dl = false → al.vals = E.results) := HRL.out
            clear hlt hk hcs1 hrv hrc hlc hnr hpc hpe hgc hg1
            cases dl with
            | true =>
              go_wp2_with fail
              exact bodyPost_ret (v := .bool true) (by simp [results, Tryz.results5, go_sem]) rfl ⟨rfl, by first | exact HB9.out | (rw [← hx]; exact HB9.out)⟩
            | false =>
              have ct1 := run_txt (HRV2.out _ (HRL2.out rfl))
              go_wp2_with fail
              exact bodyPost_ret (v := .bool true) (by simp [results, Tryz.results5, go_sem]) rfl ⟨rfl, by first | exact HB9.out | (rw [← hx]; exact HB9.out)⟩
      · have hzb : (bR == 0) = false := by simpa using hz
        clear hbR hz
        go_wp2_with fail
        exact bodyPost_ret (v := .bool true) (by simp [results, Tryz.results5, go_sem]) rfl ⟨rfl, HB8.out⟩
end Go.Proofs.YtlappkflnlbfcaaGreatDoor.Chk
end

section
/- Law CheckResults, walked (gen_ckres.py). -/
namespace Go.Proofs.YtlappkflnlbfcaaGreatDoor.Chk
open Go.RowKit Row9 Stk
set_option maxRecDepth 100000
set_option maxHeartbeats 8000000
set_option linter.unusedVariables false
/-- The three results. -/
def RR (i : Nat) : List Int := if i = 0 then [] else if i = 1 then [126] else [127]
theorem RR_len (i : Nat) : (RR i).length ≤ 1 := by
  unfold RR
  split
  · exact Nat.zero_le _
  · split <;> exact Nat.le_refl _
theorem RR_inj {i j : Nat} (hi : i < 3) (hj : j < 3) (h : RR i = RR j) : i = j := by
  have : i = 0 ∨ i = 1 ∨ i = 2 := by omega
  have : j = 0 ∨ j = 1 ∨ j = 2 := by omega
  rcases ‹i = 0 ∨ i = 1 ∨ i = 2› with rfl | rfl | rfl <;> rcases ‹j = 0 ∨ j = 1 ∨ j = 2› with rfl | rfl | rfl <;> first | rfl | (exfalso; revert h; decide)
theorem row_blk {w : World} {b : Nat} {v : Int} (h : w.heap[b]? = some (.cells #[.int .u8 v] 5 (0, 0))) (hv : 0 ≤ v ∧ v < 256) : Row elB w (.slice (some ⟨b, 0, none⟩) 1 1) [v] := by
  refine ⟨⟨_, 1, rfl, Nat.le_refl _, by omega, fun _ => ⟨b, 0, rfl, lt_of_heap h, fun j p hj => ?_⟩⟩, fun p hp => ?_⟩
  · rcases j with _ | j
    · obtain rfl := Option.some.inj hj
      intro i u hu
      have e : i = 0 := by
        rcases i with _ | i
        · rfl
        · simp [elB] at hu
      subst e
      simp [elB] at hu
      subst hu
      exact (cells_at h 0).1
    · simp at hj
  · obtain rfl := List.mem_singleton.1 hp
    exact hv
/-- The three rows, and the row of them. -/
def All3 (w : World) (y : Nat) : Prop := w.heap[y + 2]? = some (.cells #[.int .u8 126] 5 (0, 0)) ∧ w.heap[y + 3]? = some (.cells #[.int .u8 127] 5 (0, 0)) ∧ w.heap[y + 4]? = some (.cells #[.slice (some ⟨y + 1, 0, none⟩) 0 0, .slice (some ⟨y + 2, 0, none⟩) 1 1, .slice (some ⟨y + 3, 0, none⟩) 1 1] 25 (0, 0)) ∧ y + 1 < w.heap.size
theorem all3_at {w : World} {y i : Nat} (h : All3 w y) (hi : i < 3) : w.cell? ⟨y + 4, i, none⟩ = some (.slice (some ⟨y + 1 + i, 0, none⟩) (RR i).length (RR i).length) ∧ Row elB w (.slice (some ⟨y + 1 + i, 0, none⟩) (RR i).length (RR i).length) (RR i) := by
  obtain ⟨h1, h2, h3, h4⟩ := h
  have : i = 0 ∨ i = 1 ∨ i = 2 := by omega
  rcases this with rfl | rfl | rfl
  · exact ⟨(cells_at h3 0).1, ⟨⟨_, 0, rfl, Nat.le_refl _, by omega, fun h => absurd rfl h⟩, fun p hp => nomatch hp⟩⟩
  · exact ⟨(cells_at h3 1).1, row_blk h1 (by omega)⟩
  · exact ⟨(cells_at h3 2).1, row_blk h2 (by omega)⟩
theorem All3.but {w w' : World} {y : Nat} (h : All3 w y) (hb : But y w w') : All3 w' y := by
  obtain ⟨h1, h2, h3, h4⟩ := h
  exact ⟨(hb.block _ (lt_of_heap h1) (by omega)).trans h1, (hb.block _ (lt_of_heap h2) (by omega)).trans h2, (hb.block _ (lt_of_heap h3) (by omega)).trans h3, Nat.lt_of_lt_of_le h4 hb.size⟩
/-- What is made ahead of the loop. -/
theorem res_made (w : World) (a b c d e f g : Value) : (∀ W, W = (((((w.alloc (.cells #[a, b, c, d, e, f, g] 45)).alloc (.cells #[] 5)).alloc (.cells #[.int .u8 126] 5)).alloc (.cells #[.int .u8 127] 5)).alloc (.cells #[.slice (some ⟨w.heap.size + 1, 0, none⟩) 0 0, .slice (some ⟨w.heap.size + 1 + 1, 0, none⟩) 1 1, .slice (some ⟨w.heap.size + 1 + 1 + 1, 0, none⟩) 1 1] 25)) → Below w.heap.size w W ∧ W.heap[w.heap.size]? = some (.cells #[a, b, c, d, e, f, g] 45 (0, 0)) ∧ All3 W w.heap.size) := by
  intro W hW
  have hb : Below w.heap.size w W := by
    rw [hW]
    exact ((below4 w _ _ _ _).trans ((below_new _ _).mono (by simp only [size_new]; omega)))
  subst hW
  refine ⟨hb, ?_, ?_, ?_, ?_, ?_⟩
  · rw [(below4 (w.alloc (.cells #[a, b, c, d, e, f, g] 45)) (.cells #[] 5) (.cells #[.int .u8 126] 5) (.cells #[.int .u8 127] 5) (.cells #[.slice (some ⟨w.heap.size + 1, 0, none⟩) 0 0, .slice (some ⟨w.heap.size + 1 + 1, 0, none⟩) 1 1, .slice (some ⟨w.heap.size + 1 + 1 + 1, 0, none⟩) 1 1] 25)).block w.heap.size (by rw [size_new]; omega)]
    exact heap_new w _
  · rw [(below2 (((w.alloc (.cells #[a, b, c, d, e, f, g] 45)).alloc (.cells #[] 5)).alloc (.cells #[.int .u8 126] 5)) (.cells #[.int .u8 127] 5) (.cells #[.slice (some ⟨w.heap.size + 1, 0, none⟩) 0 0, .slice (some ⟨w.heap.size + 1 + 1, 0, none⟩) 1 1, .slice (some ⟨w.heap.size + 1 + 1 + 1, 0, none⟩) 1 1] 25)).block (w.heap.size + 2) (by simp only [size_new]; omega)]
    have := heap_new ((w.alloc (.cells #[a, b, c, d, e, f, g] 45)).alloc (.cells #[] 5)) (.cells #[.int .u8 126] 5)
    simp only [size_new] at this
    exact this
  · rw [(below_new ((((w.alloc (.cells #[a, b, c, d, e, f, g] 45)).alloc (.cells #[] 5)).alloc (.cells #[.int .u8 126] 5)).alloc (.cells #[.int .u8 127] 5)) (.cells #[.slice (some ⟨w.heap.size + 1, 0, none⟩) 0 0, .slice (some ⟨w.heap.size + 1 + 1, 0, none⟩) 1 1, .slice (some ⟨w.heap.size + 1 + 1 + 1, 0, none⟩) 1 1] 25)).block (w.heap.size + 3) (by simp only [size_new]; omega)]
    have := heap_new (((w.alloc (.cells #[a, b, c, d, e, f, g] 45)).alloc (.cells #[] 5)).alloc (.cells #[.int .u8 126] 5)) (.cells #[.int .u8 127] 5)
    simp only [size_new] at this
    exact this
  · have := heap_new ((((w.alloc (.cells #[a, b, c, d, e, f, g] 45)).alloc (.cells #[] 5)).alloc (.cells #[.int .u8 126] 5)).alloc (.cells #[.int .u8 127] 5)) (.cells #[.slice (some ⟨w.heap.size + 1, 0, none⟩) 0 0, .slice (some ⟨w.heap.size + 1 + 1, 0, none⟩) 1 1, .slice (some ⟨w.heap.size + 1 + 1 + 1, 0, none⟩) 1 1] 25)
    simp only [size_new] at this ⊢
    exact this
  · simp only [size_new]
    omega
/-- What a result fits. -/
def GoodR (E : EnvP) (L : List Ins.Ins) (j : Nat) : Prop := bodyR (withR E (RR j)) L = 0 ∧ ∃ a, (pathR (withR E (RR j)) L).1[L.length]? = some a ∧ a.cs = [⟨2, RR j, 0, false⟩]
theorem good_one {E : EnvP} {L : List Ins.Ins} {i j : Nat} (hi : i < 3) (hj : j < 3) (h1 : GoodR E L i) (h2 : GoodR E L j) : i = j := by
  obtain ⟨b1, a1, p1, c1⟩ := h1
  obtain ⟨b2, a2, p2, c2⟩ := h2
  exact RR_inj hi hj (results_one b1 b2 p1 p2 c1 c2)
theorem env_with {w : World} {V : EV} {E : EnvP} (h : EnvOk elGP w V E) {P : Option Addr} {n c : Nat} {R : List Int} (hr : Row elB w (.slice P n c) R) : EnvOk elGP w { V with Pr := P, nr := n, cr := c } (withR E R) := ⟨h.t, h.f, h.g, h.l, hr, h.it, h.im⟩
theorem bd_withR {E : EnvP} (h : FnBd E) {R : List Int} (hR : R.length ≤ 1) : FnBd (withR E R) := ⟨h.1, by show R.length ≤ 1000; omega⟩
theorem results_law (hC : EnvC) (v : Value) (V : EV) (E : EnvP) (l : List (Ins.Ins × Value)) (W : World) (hK : Ins.KTab W) (hA : Ins.ATab W) (h0 : EnvOk elGD W V E) (hr : Ins.InRow W v l) : Calls Tryz.prog 8 #[evV V E, v] W fun e w' => e = .returned (.bool true) ∧ Below W.heap.size W w' := by
  obtain ⟨⟨A, c, rfl, hlc, hc9, hpl⟩, _⟩ := id hr
  obtain ⟨n, hn⟩ : ∃ n, l.length = n := ⟨_, rfl⟩
  rw [hn] at hr hlc ⊢
  have HN := Lib.hid hn
  have HK := Lib.hid hK
  have HA := Lib.hid hA
  have HE := Lib.hid h0
  have HR := Lib.hid hr
  have HC := Lib.hid hC
  have HB0 := Lib.hid (below_new W (.cells #[.slice V.Pt V.nt V.ct, .slice V.Pf V.nf V.cf, .int .i64 E.tables, .int .i64 E.mems, .slice V.Pg V.ng V.cg, .slice V.Pl V.nl V.cl, .slice V.Pr V.nr V.cr] 27))
  have HX0 := Lib.hid (heap_new W (.cells #[.slice V.Pt V.nt V.ct, .slice V.Pf V.nf V.cf, .int .i64 E.tables, .int .i64 E.mems, .slice V.Pg V.ng V.cg, .slice V.Pl V.nl V.cl, .slice V.Pr V.nr V.cr] 27))
  clear hn hK hA h0 hr hC hpl hlc hc9
  show Calls _ _ #[(.agg #[.slice V.Pt V.nt V.ct, .slice V.Pf V.nf V.cf, .int .i64 E.tables, .int .i64 E.mems, .slice V.Pg V.ng V.cg, .slice V.Pl V.nl V.cl, .slice V.Pr V.nr V.cr]), .slice A n c] _ _
  go_enter Tryz.func8, Tryz.ntmps8
  go_wp2_with fail
  refine (awake_any (HK.out.keep HB0.out) (HA.out.keep HB0.out)).mono ?_
  rintro e w1 ⟨rfl, hb⟩
  have HB1 := Lib.hid (HB0.out.trans (hb.mono HB0.out.size))
  have HX1 := Lib.hid (blk HX0.out hb)
  clear hb HB0 HX0
  obtain ⟨x, hx⟩ : ∃ x, W.heap.size = x := ⟨_, rfl⟩
  rw [hx] at HX1
  simp only [hx]
  obtain ⟨a0, a1, a2, a3, a4, a5, a6⟩ := cells7b HX1.out
  have xl : x < w1.heap.size := lt_of_heap HX1.out
  go_wp2_with fail
  refine (small_any (HE.out.keep HB1.out)).mono ?_
  rintro e w2 ⟨rfl, hb⟩
  have HB2 := Lib.hid (HB1.out.trans (hb.mono HB1.out.size))
  have HX2 := Lib.hid (blk HX1.out hb)
  clear hb HB1 HX1 a0 a1 a2 a3 a4 a5 a6 xl
  cases hs : smallE E with
  | false =>
    go_wp2_with fail
    exact bodyPost_ret (v := .bool true) (by simp [results, Tryz.results8, go_sem]) rfl ⟨rfl, HB2.out⟩
  | true =>
    obtain ⟨hF, hG, hRl⟩ := small_bd hs
    have HF := Lib.hid hF
    have HG := Lib.hid hG
    clear hs hF hG hRl
    go_wp2_with fail
    refine (Bod.few_any 100 HN.out (HR.out.keep HB2.out)).mono ?_
    rintro e w3 ⟨⟨bf, rfl, hbf⟩, hww⟩
    subst hww
    cases bf with
    | false =>
      go_wp2_with fail
      exact bodyPost_ret (v := .bool true) (by simp [results, Tryz.results8, go_sem]) rfl ⟨rfl, HB2.out⟩
    | true =>
      have hfew := (hbf.1 rfl).1
      rw [HN.out] at hfew
      have hnf : n ≤ 100 := by omega
      clear hfew hbf
      obtain ⟨a0, a1, a2, a3, a4, a5, a6⟩ := cells7b HX2.out
      have xl : x < w3.heap.size := lt_of_heap HX2.out
      go_wp2_with fail
      refine (HC.out w3 V E (HE.out.keep HB2.out) HG.out).mono ?_
      rintro e w4 ⟨⟨V1, rfl, hev⟩, hb⟩
      have HB4 := Lib.hid (HB2.out.trans (hb.mono HB2.out.size))
      have HX4 := Lib.hid (blk HX2.out hb)
      have HEV := Lib.hid hev
      clear hb hev HB2 HX2 a0 a1 a2 a3 a4 a5 a6 xl
      rw [show evV V1 E = (.agg #[.slice V1.Pt V1.nt V1.ct, .slice V1.Pf V1.nf V1.cf, .int .i64 E.tables, .int .i64 E.mems, .slice V1.Pg V1.ng V1.cg, .slice V1.Pl V1.nl V1.cl, .slice V1.Pr V1.nr V1.cr]) from rfl]
      obtain ⟨hm1, hm2, hm3⟩ := res_made w4 (.slice V1.Pt V1.nt V1.ct) (.slice V1.Pf V1.nf V1.cf) (.int .i64 E.tables) (.int .i64 E.mems) (.slice V1.Pg V1.ng V1.cg) (.slice V1.Pl V1.nl V1.cl) (.slice V1.Pr V1.nr V1.cr) _ rfl
      have HM1 := Lib.hid hm1
      have HM2 := Lib.hid hm2
      have HM3 := Lib.hid hm3
      clear hm1 hm2 hm3
      go_wp2_with fail
      generalize (((((w4.alloc (.cells #[.slice V1.Pt V1.nt V1.ct, .slice V1.Pf V1.nf V1.cf, .int .i64 E.tables, .int .i64 E.mems, .slice V1.Pg V1.ng V1.cg, .slice V1.Pl V1.nl V1.cl, .slice V1.Pr V1.nr V1.cr] 45)).alloc (.cells #[] 5)).alloc (.cells #[.int .u8 126] 5)).alloc (.cells #[.int .u8 127] 5)).alloc (.cells #[.slice (some ⟨w4.heap.size + 1, 0, none⟩) 0 0, .slice (some ⟨w4.heap.size + 1 + 1, 0, none⟩) 1 1, .slice (some ⟨w4.heap.size + 1 + 1 + 1, 0, none⟩) 1 1] 25)) = w5 at *
      obtain ⟨y, hy⟩ : ∃ y, w4.heap.size = y := ⟨_, rfl⟩
      rw [hy] at HM1 HM2 HM3
      simp only [hy]
      have HXY : Hid (W.heap.size ≤ y) := by show _ ≤ _; rw [← hy]; exact HB4.out.size
      go_loopw [6, 9] (fun n' i' wr => ∃ (N i : Nat), n' = .int .i64 (N : Int) ∧ i' = .int .i64 (i : Int) ∧ i ≤ 3 ∧ But y w5 wr ∧ (∃ Pr nr cr, wr.heap[y]? = some (.cells #[.slice V1.Pt V1.nt V1.ct, .slice V1.Pf V1.nf V1.cf, .int .i64 E.tables, .int .i64 E.mems, .slice V1.Pg V1.ng V1.cg, .slice V1.Pl V1.nl V1.cl, .slice Pr nr cr] 45 (0, 0))) ∧ (N = 0 ∨ (N = 1 ∧ ∃ j, j < i ∧ GoodR E (l.map (·.1)) j))) (fun _ i' _ => 3 - (intOf i').toNat)
      case atStart => exact ⟨0, 0, by go_num, by go_num, by omega, But.refl _ _, ⟨_, _, _, HM2.out⟩, .inl rfl⟩
      case round =>
        obtain ⟨N, i, rfl, rfl, hi, hbt, ⟨Pr, nr, cr, hyb⟩, hN⟩ := hrel
        have HBT := Lib.hid hbt
        have HYB := Lib.hid hyb
        have HNN := Lib.hid hN
        have HA3 := Lib.hid (HM3.out.but hbt)
        have hN1 : N ≤ 1 := by rcases hN with h | ⟨h, _⟩ <;> omega
        have HBW : Hid (Below y w4 wr) := Lib.hid (HM1.out.trans (hbt.below (Nat.le_refl y) (lt_of_heap HM2.out)))
        have HWW : Hid (Below W.heap.size W wr) := Lib.hid (HB4.out.trans (HBW.out.mono HXY.out))
        clear hbt hyb hN
        by_cases hlt : i < 3
        · obtain ⟨c0, hri⟩ := all3_at HA3.out hlt
          obtain ⟨si, hsi⟩ : ∃ s, (RR i).length = s := ⟨_, rfl⟩
          rw [hsi] at c0 hri
          obtain ⟨o0, o1, o2, o3, o4, o5, o6⟩ := cells7b HYB.out
          have f6 := (cells_at HYB.out 6).2
          have yl : y < wr.heap.size := lt_of_heap HYB.out
          have HY1 : Hid ((wr.setCell ⟨y, 6, none⟩ (.slice (some ⟨y + 1 + i, 0, none⟩) si si)).heap[y]? = some (.cells #[.slice V1.Pt V1.nt V1.ct, .slice V1.Pf V1.nf V1.cf, .int .i64 E.tables, .int .i64 E.mems, .slice V1.Pg V1.ng V1.cg, .slice V1.Pl V1.nl V1.cl, .slice (some ⟨y + 1 + i, 0, none⟩) si si] 45 (0, 0))) := by
            show _ = _
            rw [set_heap HYB.out]
            rfl
          have HBT1 : Hid (But y w5 (wr.setCell ⟨y, 6, none⟩ (.slice (some ⟨y + 1 + i, 0, none⟩) si si))) := Lib.hid (HBT.out.trans ((But.refl y wr).setCell 6 _))
          have HA31 := Lib.hid (HM3.out.but HBT1.out)
          have HRI := (all3_at HA31.out hlt).2
          rw [hsi] at HRI
          have HRI := Lib.hid HRI
          have y1 : (0 : Int) ≤ (i : Int) := by omega
          have y2 : (i : Int) < 3 := by omega
          have y3 : decide ((i : Int) < 3) = true := decide_eq_true y2
          have hw3 : IntKind.i64.wrap ((i : Int) + 1) = (i : Int) + 1 := IntWalk.i64_in _ (by omega)
          clear hri
          go_wp2_with fail
          have HBW1 : Hid (Below y w4 (wr.setCell ⟨y, 6, none⟩ (.slice (some ⟨y + 1 + i, 0, none⟩) si si))) := Lib.hid (HM1.out.trans (HBT1.out.below (Nat.le_refl y) (lt_of_heap HM2.out)))
          have HWW1 : Hid (Below W.heap.size W (wr.setCell ⟨y, 6, none⟩ (.slice (some ⟨y + 1 + i, 0, none⟩) si si))) := Lib.hid (HB4.out.trans (HBW1.out.mono HXY.out))
          have HV1 := Lib.hid (env_with (HEV.out.keep (by rw [hy]; exact HBW1.out)) HRI.out)
          have HFW := Lib.hid (bd_withR HF.out (RR_len i))
          clear c0 o0 o1 o2 o3 o4 o5 o6 f6 yl
          generalize wr.setCell ⟨y, 6, none⟩ (.slice (some ⟨y + 1 + i, 0, none⟩) si si) = w6 at *
          refine (body_any (V := { V1 with Pr := some ⟨y + 1 + i, 0, none⟩, nr := si, cr := si }) (E := withR E (RR i)) HV1.out (HR.out.keep HWW1.out) (HK.out.keep HWW1.out) (HA.out.keep HWW1.out) HFW.out HN.out (by omega)).mono ?_
          rintro e w7 ⟨rfl, hb⟩
          have HBT7 := Lib.hid (HBT1.out.trans (But.of_below hb))
          have HY7 := Lib.hid (blk HY1.out hb)
          have HV7 := Lib.hid (HV1.out.keep hb)
          have HWW7 := Lib.hid (HWW1.out.trans (hb.mono HWW1.out.size))
          clear hb HV1 HY1 HBT1 HRI HA31 HBW1 HWW1
          obtain ⟨bR, hbR⟩ : ∃ b, bodyR (withR E (RR i)) (l.map (·.1)) = b := ⟨_, rfl⟩
          rw [hbR]
          by_cases hz : bR = 0
          · subst hz
            have HBR := Lib.hid hbR
            obtain ⟨hp0, al, hal, hsl, hvl, dl, hcl, hrl⟩ := leaves hbR
            obtain ⟨hN1', _, _, hpl⟩ := path_ok hp0
            have HP0 := Lib.hid hp0
            have HAL := Lib.hid hal
            have HCL := Lib.hid hcl
            have HPL := Lib.hid hpl
            clear hbR hp0 hal hsl hvl hcl hrl hN1' hpl
            obtain ⟨o0, o1, o2, o3, o4, o5, o6⟩ := cells7b HY7.out
            have yl : y < w7.heap.size := lt_of_heap HY7.out
            go_wp2_with fail
            refine (pathV_any (V := { V1 with Pr := some ⟨y + 1 + i, 0, none⟩, nr := si, cr := si }) (E := withR E (RR i)) HV7.out (HR.out.keep HWW7.out) (HK.out.keep HWW7.out) (HA.out.keep HWW7.out) HFW.out HN.out (by omega)).mono ?_
            rintro e w8 ⟨P, np, cp, rfl, hpv, hb⟩
            have HBT8 := Lib.hid (HBT7.out.trans (But.of_below hb))
            have HY8 := Lib.hid (blk HY7.out hb)
            rw [HP0.out]
            obtain ⟨rows, hrow, hmap, hnp⟩ := hpv.1 HP0.out
            rw [HPL.out, List.length_map, HN.out] at hnp
            subst hnp
            clear hb hpv o0 o1 o2 o3 o4 o5 o6 yl HBT7 HY7 HV7
            have hal2 := HAL.out
            rw [List.length_map, HN.out] at hal2
            obtain ⟨g1, off1, Pv, cv, Pc, cc, lc, rfl, hg1, k0, k1, hrv, hrc, hlc⟩ := stk_at hrow hmap hal2
            have hcs1 : al.cs.length = 1 := by rw [HCL.out]; rfl
            rw [hcs1] at k1 hrc
            obtain ⟨pc, hpc, hpe⟩ : ∃ pc, lc[0]? = some pc ∧ pc.1 = ⟨2, RR i, 0, dl⟩ := by
              have h1 : (lc.map (·.1))[0]? = some ⟨2, RR i, 0, dl⟩ := by rw [hlc, HCL.out]; rfl
              rw [List.getElem?_map] at h1
              cases hq : lc[0]? with
              | none => rw [hq] at h1; cases h1
              | some pc => rw [hq] at h1; exact ⟨pc, rfl, Option.some.inj h1⟩
            obtain ⟨gc, offc, rfl, hgc, _, _, _, d3, _⟩ := ctl_at hrc hpc
            rw [hpe] at d3
            simp only [Nat.zero_mul, Nat.add_zero] at d3
            obtain ⟨q1, hq1⟩ : ∃ q, off1 + n * 2 = q := ⟨_, rfl⟩
            rw [hq1] at k0 k1
            have z1 : (0 : Int) ≤ (n : Int) := by omega
            have z2 : (n : Int) < ((n + 1 : Nat) : Int) := by omega
            have z3 : (n : Int) < (n : Int) + 1 := by omega
            have hw1 : IntKind.i64.wrap ((n : Int) + 1) = (n : Int) + 1 := IntWalk.i64_in _ (by omega)
            clear hrow hmap hal2 hg1 hrv hrc hlc hcs1 hpc hpe hgc
            cases dl with
            | true =>
              go_wp2_with fail
              go_roundw
              case rel => exact ⟨N, i + 1, by go_num, by go_num, hlt, HBT8.out, ⟨_, _, _, HY8.out⟩, HNN.out.imp id fun h => ⟨h.1, by obtain ⟨j, h1, h2⟩ := h.2; exact ⟨j, Nat.lt_succ_of_lt h1, h2⟩⟩⟩
              case measure => simp [intOf]; omega
            | false =>
              have hgd : Hid (GoodR E (l.map (·.1)) i) := Lib.hid ⟨HBR.out, al, HAL.out, HCL.out⟩
              obtain rfl : N = 0 := by
                rcases HNN.out with h | ⟨_, j, h1, h2⟩
                · exact h
                · have := good_one (by omega) hlt h2 hgd.out
                  omega
              have HG1 : Hid (∃ j, j < i + 1 ∧ GoodR E (l.map (·.1)) j) := Lib.hid ⟨i, by omega, hgd.out⟩
              go_wp2_with fail
              go_roundw
              case rel => exact ⟨1, i + 1, by go_num, by go_num, hlt, HBT8.out, ⟨_, _, _, HY8.out⟩, .inr ⟨rfl, HG1.out⟩⟩
              case measure => simp [intOf]; omega
          · have hzb : (bR == 0) = false := by simpa using hz
            clear hbR hz
            go_wp2_with fail
            go_roundw
            case rel => exact ⟨N, i + 1, by go_num, by go_num, hlt, HBT7.out, ⟨_, _, _, HY7.out⟩, HNN.out.imp id fun h => ⟨h.1, by obtain ⟨j, h1, h2⟩ := h.2; exact ⟨j, Nat.lt_succ_of_lt h1, h2⟩⟩⟩
            case measure => simp [intOf]; omega
        · obtain rfl : i = 3 := by omega
          have y3 : decide ((N : Int) ≤ 1) = true := decide_eq_true (by omega)
          have y4 : (N : Int) ≤ 1 := by omega
          go_wp2_with fail
          exact bodyPost_ret (v := .bool true) (by simp [results, Tryz.results8, go_sem]) rfl ⟨rfl, by first | exact HWW.out | (rw [← hx]; exact HWW.out)⟩
end Go.Proofs.YtlappkflnlbfcaaGreatDoor.Chk
end
