/- Law CheckCuts, walked (gen_ckcuts.py). -/
import Derived.Test.YtlappkflnlbfcaaGreatDoorPkChkEnvC
import Derived.Test.YtlappkflnlbfcaaGreatDoorPkChkCutB
import Derived.Test.YtlappkflnlbfcaaGreatDoorPkChkLeafZ
import Derived.Test.YtlappkflnlbfcaaGreatDoorPkChkStepP
import Derived.Test.YtlappkflnlbfcaaGreatDoorPkStabM
namespace Go.Proofs.YtlappkflnlbfcaaGreatDoor.Chk
open Go.RowKit Row9 Stk
set_option maxRecDepth 100000
set_option maxHeartbeats 8000000
set_option linter.unusedVariables false
theorem StIs.formP {w : World} {v : Value} {s : Stk} (h : StIs elP w v s) : ∃ P n c Q m d, v = .agg #[.slice P n c, .slice Q m d] := by
  obtain ⟨a, b, l, rfl, h1, h2, _⟩ := h
  obtain ⟨P, c, rfl, _⟩ := h1.form
  obtain ⟨Q, d, rfl, _⟩ := h2.form
  exact ⟨_, _, _, _, _, _, rfl⟩
theorem i64_and16' (n : Int) : bits .and .i64 n 65535 = n % 65536 := i64_and16 n
theorem cuts_law (hC : EnvC) (v : Value) (V : EV) (E : EnvP) (l : List (Ins.Ins × Value)) (ai : Int) (W : World) (hK : Ins.KTab W) (hA : Ins.ATab W) (h0 : EnvOk elGD W V E) (hr : Ins.InRow W v l) : Calls Tryz.prog 7 #[evV V E, v, .int .i64 ai] W fun e w' => e = .returned (.bool true) ∧ Below W.heap.size W w' := by
  obtain ⟨⟨A, c, rfl, hlc, hc9, hpl⟩, _⟩ := id hr
  obtain ⟨n, hn⟩ : ∃ n, l.length = n := ⟨_, rfl⟩
  rw [hn] at hr hlc ⊢
  obtain ⟨g0, off0, hA0⟩ : ∃ g off, n ≠ 0 → A = some ⟨g, off, none⟩ := by
    by_cases hl : l = []
    · exact ⟨0, 0, fun h => absurd (by rw [← hn, hl]; rfl) h⟩
    · obtain ⟨g, off, e, _⟩ := hpl hl
      exact ⟨g, off, fun _ => e⟩
  have HA0 := Lib.hid hA0
  clear hA0
  have HN := Lib.hid hn
  have HK := Lib.hid hK
  have HA := Lib.hid hA
  have HE := Lib.hid h0
  have HR := Lib.hid hr
  have HC := Lib.hid hC
  have HB0 := Lib.hid (below_new W (.cells #[.slice V.Pt V.nt V.ct, .slice V.Pf V.nf V.cf, .int .i64 E.tables, .int .i64 E.mems, .slice V.Pg V.ng V.cg, .slice V.Pl V.nl V.cl, .slice V.Pr V.nr V.cr] 27))
  have HX0 := Lib.hid (heap_new W (.cells #[.slice V.Pt V.nt V.ct, .slice V.Pf V.nf V.cf, .int .i64 E.tables, .int .i64 E.mems, .slice V.Pg V.ng V.cg, .slice V.Pl V.nl V.cl, .slice V.Pr V.nr V.cr] 27))
  clear hn hK hA h0 hr hC hpl hlc hc9
  show Calls _ _ #[(.agg #[.slice V.Pt V.nt V.ct, .slice V.Pf V.nf V.cf, .int .i64 E.tables, .int .i64 E.mems, .slice V.Pg V.ng V.cg, .slice V.Pl V.nl V.cl, .slice V.Pr V.nr V.cr]), .slice A n c, .int .i64 ai] _ _
  go_enter Tryz.func7, Tryz.ntmps7
  go_wp2_with fail
  refine (awake_any (HK.out.keep HB0.out) (HA.out.keep HB0.out)).mono ?_
  rintro e w1 ⟨rfl, hb⟩
  have HB1 := Lib.hid (HB0.out.trans (hb.mono HB0.out.size))
  have HX1 := Lib.hid (blk HX0.out hb)
  clear hb HB0 HX0
  obtain ⟨x, hx⟩ : ∃ x, W.heap.size = x := ⟨_, rfl⟩
  rw [hx] at HX1
  simp only [hx]
  obtain ⟨a0, a1, a2, a3, a4, a5, a6⟩ := cells7b HX1.out
  have xl : x < w1.heap.size := lt_of_heap HX1.out
  go_wp2_with fail
  refine (small_any (HE.out.keep HB1.out)).mono ?_
  rintro e w2 ⟨rfl, hb⟩
  have HB2 := Lib.hid (HB1.out.trans (hb.mono HB1.out.size))
  have HX2 := Lib.hid (blk HX1.out hb)
  clear hb HB1 HX1 a0 a1 a2 a3 a4 a5 a6 xl
  cases hs : smallE E with
  | false =>
    go_wp2_with fail
    exact bodyPost_ret (v := .bool true) (by simp [results, Tryz.results7, go_sem]) rfl ⟨rfl, HB2.out⟩
  | true =>
    obtain ⟨hF, hG, hRl⟩ := small_bd hs
    have HF := Lib.hid hF
    have HG := Lib.hid hG
    clear hs hF hG hRl
    go_wp2_with fail
    refine (Bod.few_any 100 HN.out (HR.out.keep HB2.out)).mono ?_
    rintro e w3 ⟨⟨bf, rfl, hbf⟩, hww⟩
    subst hww
    cases bf with
    | false =>
      go_wp2_with fail
      exact bodyPost_ret (v := .bool true) (by simp [results, Tryz.results7, go_sem]) rfl ⟨rfl, HB2.out⟩
    | true =>
      have hfew := (hbf.1 rfl).1
      rw [HN.out] at hfew
      have hnf : n ≤ 100 := by omega
      clear hfew hbf
      obtain ⟨a0, a1, a2, a3, a4, a5, a6⟩ := cells7b HX2.out
      have xl : x < w3.heap.size := lt_of_heap HX2.out
      go_wp2_with fail
      refine (HC.out w3 V E (HE.out.keep HB2.out) HG.out).mono ?_
      rintro e w4 ⟨⟨V1, rfl, hev⟩, hb⟩
      have HB4 := Lib.hid (HB2.out.trans (hb.mono HB2.out.size))
      have HX4 := Lib.hid (blk HX2.out hb)
      have HEV := Lib.hid hev
      clear hb hev HB2 HX2 a0 a1 a2 a3 a4 a5 a6 xl
      go_wp2_with fail
      refine (pathV_any HEV.out (HR.out.keep HB4.out) (HK.out.keep HB4.out) (HA.out.keep HB4.out) HF.out HN.out (by omega)).mono ?_
      rintro e w5 ⟨P, np, cp, rfl, hpv, hb⟩
      have HB5 := Lib.hid (HB4.out.trans (hb.mono HB4.out.size))
      have HX5 := Lib.hid (blk HX4.out hb)
      have HPV := Lib.hid hpv
      obtain ⟨f, hf⟩ : ∃ f, (pathR E (l.map (·.1))).2 = f := ⟨_, rfl⟩
      have HFF := Lib.hid hf
      rw [hf]
      clear hb hpv hf HB4 HX4 HEV
      go_wp2_with fail
      refine (Bod.rdepths_any HN.out (by omega) HA0.out (HR.out.keep HB5.out)).mono ?_
      rintro e w6 ⟨⟨vd, rfl, hod⟩, hb⟩
      obtain ⟨Pd, cd, rfl⟩ := Ins.OwnI.form hod
      obtain ⟨nd, hnd⟩ : ∃ nd, (Bod.dDepths (Bod.opsL l)).length = nd := ⟨_, rfl⟩
      rw [hnd] at hod
      have HND := Lib.hid hnd
      have HOD := Lib.hid hod
      rw [hnd]
      have HB6 := Lib.hid (HB5.out.trans (hb.mono HB5.out.size))
      have HX6 := Lib.hid (blk HX5.out hb)
      have HPV := Lib.hid (HPV.out.keep hb)
      clear hb hod hnd HB5 HX5
      by_cases hz : f = 0
      · subst hz
        obtain ⟨hN1, hSE, _, hpl⟩ := path_ok HFF.out
        obtain ⟨rows, hrow, hmap, hnp⟩ := HPV.out.1 HFF.out
        rw [hpl, List.length_map, HN.out] at hnp
        have hndn : nd = n := by
          rw [← HND.out, ← opsP_is, dep_n hN1, opsP_len, List.length_map, HN.out]
        subst hnp hndn
        have HRW := Lib.hid hrow
        have HMP := Lib.hid hmap
        have HN1 := Lib.hid hN1
        have hw1 : IntKind.i64.wrap ((nd : Int) + 1) = (nd : Int) + 1 := IntWalk.i64_in _ (by omega)
        obtain ⟨k, hkd⟩ : ∃ k : Nat, (ai % 65536) % ((nd : Int) + 1) = (k : Int) := ⟨((ai % 65536) % ((nd : Int) + 1)).toNat, by have := Int.emod_nonneg (ai % 65536) (show (nd : Int) + 1 ≠ 0 by omega); omega⟩
        have hkn : k ≤ nd := by have := Int.emod_lt_of_pos (ai % 65536) (show (0 : Int) < (nd : Int) + 1 by omega); omega
        have hkt : (ai % 65536).tmod ((nd : Int) + 1) = (k : Int) := by rw [Int.tmod_eq_emod_of_nonneg (by omega)]; exact hkd
        have ha16 := i64_and16 ai
        have hne0 : ((nd : Int) + 1 == 0) = false := by simp; omega
        have hne1 : (nd : Int) + 1 ≠ 0 := by omega
        have hwk : IntKind.i64.wrap (k : Int) = (k : Int) := IntWalk.i64_in _ (by omega)
        clear hN1 hSE hpl hrow hmap hkd
        obtain ⟨ak, hak, _⟩ := path_open HFF.out k (by rw [List.length_map, HN.out]; exact hkn)
        have HAK := Lib.hid hak
        have HKN := Lib.hid hkn
        clear hak
        by_cases hlt : k < nd
        · have y1 : (0 : Int) ≤ (k : Int) := by omega
          have y2 : (k : Int) < (nd : Int) := by omega
          have y3 : decide ((k : Int) < (nd : Int)) = true := decide_eq_true y2
          have y4 : decide (k < nd) = true := decide_eq_true hlt
          obtain ⟨p, hp⟩ : ∃ p, l[k]? = some p := ⟨_, List.getElem?_eq_getElem (by rw [HN.out]; exact hlt)⟩
          have hpi : (l.map (·.1))[k]? = some p.1 := by rw [List.getElem?_map, hp]; rfl
          have HPI := Lib.hid hpi
          obtain ⟨g2, off2, hAe, ⟨i0, i1, i2, i3, i4⟩, hok⟩ := (HR.out.keep HB6.out).at_ hp
          subst hAe
          obtain ⟨g3, rfl, hg3, j0⟩ := ownI_at (x := (((Bod.aroundD (opsP (l.map (·.1))) k).length : Nat) : Int)) HOD.out (by rw [← opsP_is]; exact dep_at HN1.out (k := k) (by rw [opsP_len, List.length_map, HN.out]; exact hlt))
          obtain ⟨dk, hdk⟩ : ∃ d, (Bod.aroundD (opsP (l.map (·.1))) k).length = d := ⟨_, rfl⟩
          rw [hdk] at j0
          obtain ⟨op, hop⟩ : ∃ op, p.1.op = op := ⟨_, rfl⟩
          have HDK := Lib.hid hdk
          have HOP := Lib.hid hop
          have HPG := Lib.hid hp
          rw [hop] at i0
          obtain ⟨q2, hq2⟩ : ∃ q, off2 + k * 5 = q := ⟨_, rfl⟩
          rw [hq2] at i0
          clear hp hpi hg3 hdk hop i1 i2 i3 i4 hok
          by_cases hd0 : dk = 0
          · subst hd0
            by_cases h5 : op = 5
            · subst h5
              go_wp2_with fail
              all_goals first
                | exact absurd (by assumption) (undef_ne _)
                | exact bodyPost_ret (v := .bool true) (by simp [results, Tryz.results7, go_sem]) rfl ⟨rfl, by first | exact HB6.out | (rw [← hx]; exact HB6.out)⟩
            · by_cases h11 : op = 11
              · subst h11
                go_wp2_with fail
                all_goals first
                  | exact absurd (by assumption) (undef_ne _)
                  | exact bodyPost_ret (v := .bool true) (by simp [results, Tryz.results7, go_sem]) rfl ⟨rfl, by first | exact HB6.out | (rw [← hx]; exact HB6.out)⟩
              · have t5 : (op == 5) = false := by simpa using h5
                have t11 : (op == 11) = false := by simpa using h11
                have HCUT : Hid (pathR E ((l.take k).map (·.1)) = ((pathR E (l.map (·.1))).1.take (k + 1), 0)) := by
                  show _ = _
                  rw [List.map_take]
                  refine path_take HFF.out (by rw [List.length_map, HN.out]; exact hkn) fun _ => ⟨HDK.out, ?_, ?_⟩
                  · rw [opsP_get HPI.out, HOP.out]; exact h5
                  · rw [opsP_get HPI.out, HOP.out]; exact h11
                clear h5 h11
                go_wp2_with fail
                have HBB := Lib.hid HB6.out
                have HNK : Hid ((l.take k).length = k) := by show _ = _; rw [List.length_take, HN.out]; have := HKN.out; omega
                have HTL : Hid (((pathR E (l.map (·.1))).1.take (k + 1)).length = k + 1) := by show _ = _; rw [List.length_take, (path_ok HFF.out).2.2.2, List.length_map, HN.out]; have := HKN.out; omega
                have HRI := Lib.hid (HR.out.keep HBB.out)
                have hkc : k ≤ c := by obtain ⟨⟨_, _, e, h1, _⟩, _⟩ := HR.out; injection e with _ e2 e3; have := HN.out; have := HKN.out; omega
                refine Stab.region 182 [.is (.agg #[.slice V.Pt V.nt V.ct, .slice V.Pf V.nf V.cf, .int .i64 E.tables, .int .i64 E.mems, .slice V.Pg V.ng V.cg, .slice V.Pl V.nl V.cl, .slice V.Pr V.nr V.cr]), .fits (fun v W => ∃ V2, v = evV V2 E ∧ EnvOk elGP W V2 E), .is (.slice (some ⟨g2, off2, none⟩) nd c), .is (.int .i64 (k : Int)), .is (.slice (some ⟨g2, off2, none⟩) k c), .fits (fun v W => ∃ P2 c2 rows2, v = .tuple #[.slice P2 (k + 1) c2, .int .i64 0] ∧ Row elS W (.slice P2 (k + 1) c2) rows2 ∧ rows2.map (·.1) = (pathR E (l.map (·.1))).1.take (k + 1)), .fits (fun v W => ∃ P2 c2 rows2, v = .tuple #[.slice P2 (k + 1) c2, .int .i64 0] ∧ Row elS W (.slice P2 (k + 1) c2) rows2 ∧ rows2.map (·.1) = (pathR E (l.map (·.1))).1.take (k + 1)), .fits (fun v W => ∃ P2 c2 rows2, v = .slice P2 (k + 1) c2 ∧ Row elS W (.slice P2 (k + 1) c2) rows2 ∧ rows2.map (·.1) = (pathR E (l.map (·.1))).1.take (k + 1)), .is (.int .i64 0), .fits (fun v W => ∃ P2 c2 rows2, v = .slice P2 (k + 1) c2 ∧ Row elS W (.slice P2 (k + 1) c2) rows2 ∧ rows2.map (·.1) = (pathR E (l.map (·.1))).1.take (k + 1)), .is (.int .i64 0)] (by kernel_rfl) (by kernel_rfl) rfl rfl ?_ ?_
                · with_reducible refine Stab.steps_cons ?_ ?_ ?_
                  · exact Stab.owes_load rfl (fun v W hb hv => by subst hv; exact run_ldEn (blk HX6.out hb)) rfl
                  · exact trivial
                  with_reducible refine Stab.steps_cons ?_ ?_ ?_
                  · (refine Stab.owes_call Tryz.func13 (by kernel_rfl) (by kernel_rfl) rfl (fun vs W hb hall => ?_) rfl; obtain ⟨_, _, rfl, rfl, rfl⟩ := hall; refine (HC.out W V E (HE.out.keep (HBB.out.trans (hb.mono HBB.out.size))) HG.out).mono ?_; rintro e w2 ⟨⟨V2, rfl, hev⟩, hb2⟩; exact ⟨_, rfl, hb2, V2, rfl, hev⟩)
                  · exact (fun v w w' h hb => by obtain ⟨V2, h1, h2⟩ := h; exact ⟨V2, h1, h2.keep hb⟩)
                  with_reducible refine Stab.steps_cons ?_ ?_ ?_
                  · exact Stab.owes_move rfl rfl rfl
                  · exact trivial
                  with_reducible refine Stab.steps_cons ?_ ?_ ?_
                  · exact Stab.owes_move rfl rfl rfl
                  · exact trivial
                  with_reducible refine Stab.steps_cons ?_ ?_ ?_
                  · exact Stab.owes_upto rfl rfl rfl (fun W => run_slIn _ _ _ _ W hkc) rfl
                  · exact trivial
                  with_reducible refine Stab.steps_cons ?_ ?_ ?_
                  · (refine Stab.owes_call Tryz.func21 (by kernel_rfl) (by kernel_rfl) rfl (fun vs W hb hall => ?_) rfl; obtain ⟨_, _, rfl, ⟨V2, rfl, hev⟩, _, _, rfl, rfl, rfl⟩ := hall; have hbw := HBB.out.trans (hb.mono HBB.out.size); refine (pathV_any hev (inrow_take (HR.out.keep hbw) k HKN.out) (HK.out.keep hbw) (HA.out.keep hbw) HF.out HNK.out (by have := HKN.out; omega)).mono ?_; rintro e w2 ⟨P2, np2, cp2, rfl, hpv, hb2⟩; rw [HCUT.out] at hpv ⊢; obtain ⟨rows2, h1, h2, h3⟩ := hpv.1 rfl; have hn2 : np2 = k + 1 := h3.symm.trans HTL.out; subst hn2; exact ⟨_, rfl, hb2, P2, cp2, rows2, rfl, h1, h2⟩)
                  · exact (fun v w w' h hb => by obtain ⟨P2, c2, rows2, h1, h2, h3⟩ := h; exact ⟨P2, c2, rows2, h1, h2.keep hb, h3⟩)
                  with_reducible refine Stab.steps_cons ?_ ?_ ?_
                  · exact Stab.owes_move rfl rfl rfl
                  · exact (fun v w w' h hb => by obtain ⟨P2, c2, rows2, h1, h2, h3⟩ := h; exact ⟨P2, c2, rows2, h1, h2.keep hb, h3⟩)
                  with_reducible refine Stab.steps_cons ?_ ?_ ?_
                  · exact owes_extF rfl rfl (fun v W h => by obtain ⟨P2, c2, rows2, rfl, h2, h3⟩ := h; exact ⟨_, run_ext0 W, P2, c2, rows2, rfl, h2, h3⟩) rfl
                  · exact (fun v w w' h hb => by obtain ⟨P2, c2, rows2, h1, h2, h3⟩ := h; exact ⟨P2, c2, rows2, h1, h2.keep hb, h3⟩)
                  with_reducible refine Stab.steps_cons ?_ ?_ ?_
                  · exact owes_extI rfl rfl (fun v W h => by obtain ⟨P2, c2, rows2, rfl, h2, h3⟩ := h; exact run_ext1 W) rfl
                  · exact trivial
                  with_reducible refine Stab.steps_cons ?_ ?_ ?_
                  · exact Stab.owes_assign rfl rfl rfl
                  · exact (fun v w w' h hb => by obtain ⟨P2, c2, rows2, h1, h2, h3⟩ := h; exact ⟨P2, c2, rows2, h1, h2.keep hb, h3⟩)
                  with_reducible refine Stab.steps_cons ?_ ?_ ?_
                  · exact Stab.owes_assign rfl rfl rfl
                  · exact trivial
                  exact Stab.steps_nil
                intro z1 z2 z3 z4 z5 w9 hb hI
                obtain ⟨⟨P2, c2, rows2, rfl, hr2, hm2⟩, _⟩ := hI
                simp only [Act.put, List.setIfInBounds_toArray, List.set_cons_succ, List.set_cons_zero]
                have HW9 := Lib.hid (HBB.out.trans (hb.mono HBB.out.size))
                have HX9 := Lib.hid (blk HX6.out hb)
                have HRW9 := Lib.hid (HRW.out.keep hb)
                have HRI9 := Lib.hid (HRI.out.keep hb)
                have HQ := (show ((pathR E (l.map (·.1))).1.take (k + 1))[k]? = some ak by rw [List.getElem?_take_of_lt (Nat.lt_succ_self k)]; exact HAK.out)
                obtain ⟨gq, offq, Pv, cv, Pc, cc, lc, rfl, hgq, u0, u1, hrv, hrc, hlc'⟩ := stk_at hr2 hm2 HQ
                obtain ⟨gp, offp, Pv', cv', Pc', cc', lc', rfl, hgp, s0, s1, hrv', hrc', hlc''⟩ := stk_at HRW9.out HMP.out HAK.out
                have HS1 := Lib.hid (fun W (hW : Below w9.heap.size w9 W) => run_txt (hrv.keep hW))
                have HS2 := Lib.hid (fun W (hW : Below w9.heap.size w9 W) => run_txt (hrv'.keep hW))
                have HST := Lib.hid (stk_is hrv hrc hlc')
                obtain ⟨qq, hqq⟩ : ∃ q, offq + k * 2 = q := ⟨_, rfl⟩
                obtain ⟨qp, hqp⟩ : ∃ q, offp + k * 2 = q := ⟨_, rfl⟩
                rw [hqq] at u0 u1
                rw [hqp] at s0 s1
                obtain ⟨nv, hnv⟩ : ∃ n, ak.vals.length = n := ⟨_, rfl⟩
                obtain ⟨nc, hnc⟩ : ∃ n, ak.cs.length = n := ⟨_, rfl⟩
                rw [hnv] at u0 s0 HS1 HS2 HST
                rw [hnc] at u1 HST
                have hwk1 : IntKind.i64.wrap ((k : Int) + 1) = (k : Int) + 1 := IntWalk.i64_in _ (by have := HKN.out; omega)
                have HR2 := Lib.hid hr2
                have HM2 := Lib.hid hm2
                have HGQ := Lib.hid hgq
                clear hb hr2 hm2 HQ hrv hrc hlc' hrv' hrc' hlc'' hnv hnc s1
                go_wp2_with fail
                refine Stab.region 182 [.is ((.int .i64 0)), .is ((.bool false)), .is ((.bool false)), .is ((.slice (some ⟨gq, offq, none⟩) (k + 1) c2)), .is ((.int .i64 ((k + 1 : Nat) : Int))), .is ((.int .i64 (k : Int))), .is ((.int .i64 ((k : Int) + 1))), .is ((.bool false)), .is ((.bool false)), .is ((.bool false)), .is ((.slice (some ⟨gq, offq, none⟩) (k + 1) c2)), .is ((.int .i64 (k : Int))), .is ((.pointer (some ⟨gq, qq, none⟩))), .is ((.pointer (some ⟨gq, qq, none⟩))), .is ((.slice Pv nv cv)), .is ((.string (strOfNums ak.vals))), .is ((.slice (some ⟨gp, offp, none⟩) (nd + 1) cp)), .is ((.int .i64 (k : Int))), .is ((.pointer (some ⟨gp, qp, none⟩))), .is ((.pointer (some ⟨gp, qp, none⟩))), .is ((.slice Pv' nv cv')), .is ((.string (strOfNums ak.vals))), .is ((.bool false)), .is ((.bool false))] (by kernel_rfl) (by kernel_rfl) rfl rfl ?_ ?_
                · with_reducible refine Stab.steps_cons ?_ ?_ ?_
                  · exact Stab.owes_move rfl rfl rfl
                  · exact trivial
                  with_reducible refine Stab.steps_cons ?_ ?_ ?_
                  · exact Stab.owes_bin rfl rfl rfl (fun W => Go.Proofs.YtlappkflnlbfcaaGreatDoor.Stab.run_neE _ _ 0 0 false (by decide) W) rfl
                  · exact trivial
                  with_reducible refine Stab.steps_cons ?_ ?_ ?_
                  · exact Stab.owes_move rfl rfl rfl
                  · exact trivial
                  with_reducible refine Stab.steps_cons ?_ ?_ ?_
                  · exact Stab.owes_move rfl rfl rfl
                  · exact trivial
                  with_reducible refine Stab.steps_cons ?_ ?_ ?_
                  · exact Stab.owes_length rfl rfl (fun W => run_lenSt _ _ _ _ W) rfl
                  · exact trivial
                  with_reducible refine Stab.steps_cons ?_ ?_ ?_
                  · exact Stab.owes_move rfl rfl rfl
                  · exact trivial
                  with_reducible refine Stab.steps_cons ?_ ?_ ?_
                  · exact Stab.owes_bin rfl rfl rfl (fun W => run_addK _ _ k W hwk1) rfl
                  · exact trivial
                  with_reducible refine Stab.steps_cons ?_ ?_ ?_
                  · exact Stab.owes_bin rfl rfl rfl (fun W => Go.Proofs.YtlappkflnlbfcaaGreatDoor.Stab.run_neI _ _ ((k + 1 : Nat) : Int) ((k : Int) + 1) false (by simp) W) rfl
                  · exact trivial
                  with_reducible refine Stab.steps_cons ?_ ?_ ?_
                  · exact Stab.owes_pick rfl rfl rfl rfl
                  · exact trivial
                  with_reducible refine Stab.steps_cons ?_ ?_ ?_
                  · exact Stab.owes_move rfl rfl rfl
                  · exact trivial
                  with_reducible refine Stab.steps_cons ?_ ?_ ?_
                  · exact Stab.owes_move rfl rfl rfl
                  · exact trivial
                  with_reducible refine Stab.steps_cons ?_ ?_ ?_
                  · exact Stab.owes_move rfl rfl rfl
                  · exact trivial
                  with_reducible refine Stab.steps_cons ?_ ?_ ?_
                  · exact Stab.owes_indexAt rfl rfl rfl (fun W => run_idxSt W (Nat.lt_succ_self k) hqq) rfl
                  · exact trivial
                  with_reducible refine Stab.steps_cons ?_ ?_ ?_
                  · exact Stab.owes_fieldAt rfl rfl (fun W => run_fSt0 _ _ W) rfl
                  · exact trivial
                  with_reducible refine Stab.steps_cons ?_ ?_ ?_
                  · exact Stab.owes_load rfl (fun v W hb hv => by subst hv; exact run_ldBy ((hb.cell (p := ⟨gq, qq, none⟩) hgq).trans u0)) rfl
                  · exact trivial
                  with_reducible refine Stab.steps_cons ?_ ?_ ?_
                  · exact Stab.owes_convert rfl (fun v W hb hv => by subst hv; exact HS1.out W hb) rfl
                  · exact trivial
                  with_reducible refine Stab.steps_cons ?_ ?_ ?_
                  · exact Stab.owes_move rfl rfl rfl
                  · exact trivial
                  with_reducible refine Stab.steps_cons ?_ ?_ ?_
                  · exact Stab.owes_move rfl rfl rfl
                  · exact trivial
                  with_reducible refine Stab.steps_cons ?_ ?_ ?_
                  · exact Stab.owes_indexAt rfl rfl rfl (fun W => run_idxSt W (by have := HKN.out; omega) hqp) rfl
                  · exact trivial
                  with_reducible refine Stab.steps_cons ?_ ?_ ?_
                  · exact Stab.owes_fieldAt rfl rfl (fun W => run_fSt0 _ _ W) rfl
                  · exact trivial
                  with_reducible refine Stab.steps_cons ?_ ?_ ?_
                  · exact Stab.owes_load rfl (fun v W hb hv => by subst hv; exact run_ldBy ((hb.cell (p := ⟨gp, qp, none⟩) hgp).trans s0)) rfl
                  · exact trivial
                  with_reducible refine Stab.steps_cons ?_ ?_ ?_
                  · exact Stab.owes_convert rfl (fun v W hb hv => by subst hv; exact HS2.out W hb) rfl
                  · exact trivial
                  with_reducible refine Stab.steps_cons ?_ ?_ ?_
                  · exact Stab.owes_bin rfl rfl rfl (fun W => run_neSS _ _ _ W) rfl
                  · exact trivial
                  with_reducible refine Stab.steps_cons ?_ ?_ ?_
                  · exact Stab.owes_pick rfl rfl rfl rfl
                  · exact trivial
                  exact Stab.steps_nil
                intro w10 hb _
                simp only [Act.put, List.setIfInBounds_toArray, List.set_cons_succ, List.set_cons_zero]
                have HW10 := Lib.hid (HW9.out.trans (hb.mono HW9.out.size))
                have HX10 := Lib.hid (blk HX9.out hb)
                have HRI10 := Lib.hid (HRI9.out.keep hb)
                have HRW10 := Lib.hid (HRW9.out.keep hb)
                have HST10 := Lib.hid (HST.out.keep hb)
                have u0 := (hb.cell (p := ⟨gq, qq, none⟩) hgq).trans u0
                have u1 := (hb.cell (p := ⟨gq, qq + 1, none⟩) hgq).trans u1
                have hgq : gq < w10.heap.size := Nat.lt_of_lt_of_le hgq hb.size
                clear hb s0 hgp
                have t7 : ((k : Int) == (nd : Int)) = false := by simp; omega
                have t8 : (k == nd) = false := by simp; omega
                go_wp2_with fail
                obtain ⟨a', bk, e1, e2, _, e4⟩ := path_step HFF.out HPI.out
                obtain rfl : ak = a' := Option.some.inj (HAK.out.symm.trans e1)
                obtain ⟨g2', off2', e3, ⟨j0, j1, j2, j3, j4⟩, hok⟩ := HRI10.out.at_ HPG.out
                simp only [Option.some.injEq, Addr.mk.injEq, and_true] at e3
                obtain ⟨rfl, rfl⟩ := e3
                rw [hq2] at j0 j1 j2 j3 j4
                obtain ⟨_, _, hpg, hpl⟩ := path_ok HFF.out
                have hbdk : Bd (.ok ak) 300000 := by
                  have hm : ak ∈ (pathGo E (l.map (·.1)) (s0 E)).1 := by rw [← hpg]; exact List.mem_of_getElem? HAK.out
                  have h1 := go_bd HF.out (l.map (·.1)) (s0 E) 1 (fun t ht => by injection ht with ht; rw [← ht]; exact ⟨by simp [s0], by simp [s0]⟩) ak hm
                  rw [List.length_map, HN.out] at h1
                  exact h1.mono (by have : nd * 1001 ≤ 100 * 1001 := Nat.mul_le_mul_right _ hnf; omega)
                have HSTEP := Lib.hid e4
                have HBK := Lib.hid e2
                have HBD := Lib.hid hbdk
                have HOK := Lib.hid hok
                have HBB := Lib.hid HW10.out
                obtain ⟨lab, hlab⟩ : ∃ v, p.2 = v := ⟨_, rfl⟩
                rw [hlab] at j4
                have hg2 : g2 < w10.heap.size := World.block_lt_of_cell? w10 ⟨g2, q2, none⟩ j0
                clear e1 e2 e4 hok hpg hpl hbdk
                refine Stab.region_mix 15 182 13 _ _ _ [.is (.agg #[.slice V.Pt V.nt V.ct, .slice V.Pf V.nf V.cf, .int .i64 E.tables, .int .i64 E.mems, .slice V.Pg V.ng V.cg, .slice V.Pl V.nl V.cl, .slice V.Pr V.nr V.cr]), .fits (fun v W => ∃ V2, v = evV V2 E ∧ EnvOk elGP W V2 E), .is (.slice (some ⟨gq, offq, none⟩) (k + 1) c2), .is (.int .i64 (k : Int)), .is (.pointer (some ⟨gq, qq, none⟩)), .is (.agg #[.slice Pv nv cv, .slice Pc nc cc]), .is (.slice (some ⟨g2, off2, none⟩) nd c), .is (.int .i64 (k : Int)), .is (.pointer (some ⟨g2, q2, none⟩)), .is (.agg #[.int .i64 p.1.op, .int .i64 p.1.A, .int .i64 p.1.B, .int .u64 p.1.K, lab]), .fits (fun v W => ∃ Pb nb cb Qb mb db, v = .tuple #[.agg #[.slice Pb nb cb, .slice Qb mb db], .int .i64 0] ∧ StIs elP W (.agg #[.slice Pb nb cb, .slice Qb mb db]) bk), .fits (fun v W => ∃ Pb nb cb Qb mb db, v = .tuple #[.agg #[.slice Pb nb cb, .slice Qb mb db], .int .i64 0] ∧ StIs elP W (.agg #[.slice Pb nb cb, .slice Qb mb db]) bk), .fits (fun v W => ∃ Pb nb cb Qb mb db, v = .agg #[.slice Pb nb cb, .slice Qb mb db] ∧ StIs elP W (.agg #[.slice Pb nb cb, .slice Qb mb db]) bk), .is (.int .i64 0), .fits (fun v W => ∃ gs, v = .pointer (some ⟨gs, 0, none⟩) ∧ w10.heap.size ≤ gs ∧ W.heap[gs]? = some (.cells #[.slice none 0 0, .slice none 0 0] 39 (0, 0)))] (by kernel_rfl) (by kernel_rfl) (by kernel_rfl) (by kernel_rfl) rfl rfl rfl rfl rfl ?_ ?_ ?_
                · simp only [List.take_succ_cons, List.take_zero]
                  with_reducible refine Stab.steps_cons ?_ ?_ ?_
                  · exact Stab.owes_load rfl (fun v W hb hv => by subst hv; exact run_ldEn (blk HX10.out hb)) rfl
                  · exact trivial
                  with_reducible refine Stab.steps_cons ?_ ?_ ?_
                  · (refine Stab.owes_call Tryz.func13 (by kernel_rfl) (by kernel_rfl) rfl (fun vs W hb hall => ?_) rfl; obtain ⟨_, _, rfl, rfl, rfl⟩ := hall; refine (HC.out W V E (HE.out.keep (HBB.out.trans (hb.mono HBB.out.size))) HG.out).mono ?_; rintro e w2 ⟨⟨V2, rfl, hev⟩, hb2⟩; exact ⟨_, rfl, hb2, V2, rfl, hev⟩)
                  · exact (fun v w w' h hb => by obtain ⟨V2, h1, h2⟩ := h; exact ⟨V2, h1, h2.keep hb⟩)
                  with_reducible refine Stab.steps_cons ?_ ?_ ?_
                  · exact Stab.owes_move rfl rfl rfl
                  · exact trivial
                  with_reducible refine Stab.steps_cons ?_ ?_ ?_
                  · exact Stab.owes_move rfl rfl rfl
                  · exact trivial
                  with_reducible refine Stab.steps_cons ?_ ?_ ?_
                  · exact Stab.owes_indexAt rfl rfl rfl (fun W => run_idxSt W (Nat.lt_succ_self k) hqq) rfl
                  · exact trivial
                  with_reducible refine Stab.steps_cons ?_ ?_ ?_
                  · exact Stab.owes_load rfl (fun v W hb hv => by subst hv; exact run_ldSt ((hb.cell (p := ⟨gq, qq, none⟩) hgq).trans u0) ((hb.cell (p := ⟨gq, qq + 1, none⟩) hgq).trans u1)) rfl
                  · exact trivial
                  with_reducible refine Stab.steps_cons ?_ ?_ ?_
                  · exact Stab.owes_move rfl rfl rfl
                  · exact trivial
                  with_reducible refine Stab.steps_cons ?_ ?_ ?_
                  · exact Stab.owes_move rfl rfl rfl
                  · exact trivial
                  with_reducible refine Stab.steps_cons ?_ ?_ ?_
                  · exact Stab.owes_indexAt rfl rfl rfl (fun W => run_idxIn W hlt hq2) rfl
                  · exact trivial
                  with_reducible refine Stab.steps_cons ?_ ?_ ?_
                  · exact Stab.owes_load rfl (fun v W hb hv => by subst hv; exact run_ldIn ((hb.cell (p := ⟨g2, q2, none⟩) hg2).trans j0) ((hb.cell (p := ⟨g2, q2 + 1, none⟩) hg2).trans j1) ((hb.cell (p := ⟨g2, q2 + 2, none⟩) hg2).trans j2) ((hb.cell (p := ⟨g2, q2 + 3, none⟩) hg2).trans j3) ((hb.cell (p := ⟨g2, q2 + 4, none⟩) hg2).trans j4)) rfl
                  · exact trivial
                  with_reducible refine Stab.steps_cons ?_ ?_ ?_
                  · (refine Stab.owes_call Tryz.func12 (by kernel_rfl) (by kernel_rfl) rfl (fun vs W hb hall => ?_) rfl; obtain ⟨_, _, rfl, ⟨V2, rfl, hev⟩, _, _, rfl, rfl, _, _, rfl, rfl, rfl⟩ := hall; have hbw := HBB.out.trans (hb.mono HBB.out.size); refine (step_any (s := ak) (i := p.1) (lab := lab) hev (HST10.out.keep hb) HBD.out (HK.out.keep hbw) (HA.out.keep hbw) HF.out (by rw [← hlab]; exact HOK.out.1.keep hb) HOK.out.2).mono ?_; rintro e w2 ⟨h1, hb2⟩; rw [HSTEP.out] at h1; obtain ⟨v2, rfl, h2⟩ := h1; obtain ⟨Pb, nb, cb, Qb, mb, db, rfl⟩ := StIs.formP h2; exact ⟨_, rfl, hb2, Pb, nb, cb, Qb, mb, db, rfl, h2⟩)
                  · exact (fun v w w' h hb => by obtain ⟨Pb, nb, cb, Qb, mb, db, h1, h2⟩ := h; exact ⟨Pb, nb, cb, Qb, mb, db, h1, h2.keep hb⟩)
                  with_reducible refine Stab.steps_cons ?_ ?_ ?_
                  · exact Stab.owes_move rfl rfl rfl
                  · exact (fun v w w' h hb => by obtain ⟨Pb, nb, cb, Qb, mb, db, h1, h2⟩ := h; exact ⟨Pb, nb, cb, Qb, mb, db, h1, h2.keep hb⟩)
                  with_reducible refine Stab.steps_cons ?_ ?_ ?_
                  · exact owes_extF rfl rfl (fun v W h => by obtain ⟨Pb, nb, cb, Qb, mb, db, rfl, h2⟩ := h; exact ⟨_, run_ext0 W, Pb, nb, cb, Qb, mb, db, rfl, h2⟩) rfl
                  · exact (fun v w w' h hb => by obtain ⟨Pb, nb, cb, Qb, mb, db, h1, h2⟩ := h; exact ⟨Pb, nb, cb, Qb, mb, db, h1, h2.keep hb⟩)
                  with_reducible refine Stab.steps_cons ?_ ?_ ?_
                  · exact owes_extI rfl rfl (fun v W h => by obtain ⟨Pb, nb, cb, Qb, mb, db, rfl, h2⟩ := h; exact run_ext1 W) rfl
                  · exact trivial
                  with_reducible refine Stab.steps_cons ?_ ?_ ?_
                  · (refine Stab.owes_alloc (t := 39) rfl (fun W hb => ?_) rfl; go_simp; exact ⟨below_new W _, W.heap.size, rfl, hb.size, heap_new W _⟩)
                  · exact (fun v w w' h hb => by obtain ⟨gs, h1, h2, h3⟩ := h; exact ⟨gs, h1, h2, blk h3 hb⟩)
                  exact Stab.steps_nil
                all_goals (
                  simp only [List.take_succ_cons, List.take_zero, List.eraseIdx_cons_succ, List.eraseIdx_cons_zero]
                  intro z6 z7 z8 z9 z10 w11 hb hI
                  obtain ⟨⟨gs, rfl, hgs, hgc⟩, ⟨Pb, nb, cb, Qb, mb, db, rfl, hsb⟩, ⟨Pb1, nb1, cb1, Qb1, mb1, db1, rfl, _⟩, _⟩ := hI
                  simp only [Act.put, List.setIfInBounds_toArray, List.set_cons_succ, List.set_cons_zero]
                  have HW11 := Lib.hid (HBB.out.trans (hb.mono HBB.out.size))
                  have HRW11 := Lib.hid (HRW10.out.keep hb)
                  have HGC := Lib.hid hgc
                  have HB1011 := Lib.hid hb
                  have HGS := Lib.hid hgs
                  have HSB := Lib.hid hsb
                  obtain ⟨z0, z1⟩ := cells2 hgc
                  have zp0 := (cells_at hgc 0).2
                  have zp1 := (cells_at hgc 1).2
                  have zl : gs < w11.heap.size := lt_of_heap hgc
                  have hg10 := hb.size
                  clear hb hgs hgc hsb u0 u1 j0 j1 j2 j3 j4 hgq hg2
                  go_wp2_with fail
                  have hbt : But gs w11 ((w11.setCell ⟨gs, 0, none⟩ (.slice Pb nb cb)).setCell ⟨gs, 1, none⟩ (.slice Qb mb db)) := ((But.refl gs w11).setCell 0 _).setCell 1 _
                  have hsb13 : StIs elP ((w11.setCell ⟨gs, 0, none⟩ (.slice Pb nb cb)).setCell ⟨gs, 1, none⟩ (.slice Qb mb db)) (.agg #[.slice Pb nb cb, .slice Qb mb db]) bk := StIs.apart (e := 72) (hi := infoP) HSB.out (nobb_of HGC.out fun u hu => by simp only [List.mem_cons, List.not_mem_nil, or_false] at hu; rcases hu with rfl | rfl <;> exact ⟨fun x => by simp, fun b => by simp⟩) hbt
                  have hf13 : (((w11.setCell ⟨gs, 0, none⟩ (.slice Pb nb cb)).setCell ⟨gs, 1, none⟩ (.slice Qb mb db))).heap[gs]? = some (.cells #[.slice Pb nb cb, .slice Qb mb db] 39 (0, 0)) := by
                    rw [set_heap (set_heap HGC.out _)]
                    rfl
                  have hb13 : Below w10.heap.size w10 ((w11.setCell ⟨gs, 0, none⟩ (.slice Pb nb cb)).setCell ⟨gs, 1, none⟩ (.slice Qb mb db)) := (HB1011.out.setCell (p := ⟨gs, 0, none⟩) HGS.out _).setCell (p := ⟨gs, 1, none⟩) HGS.out _
                  have HW13 := Lib.hid (HBB.out.trans (hb13.mono HBB.out.size))
                  have HRW13 := Lib.hid (HRW10.out.keep hb13)
                  generalize ((w11.setCell ⟨gs, 0, none⟩ (.slice Pb nb cb)).setCell ⟨gs, 1, none⟩ (.slice Qb mb db)) = w13 at *
                  obtain ⟨va, vb, lb, e5, r1, r2, r3⟩ := hsb13
                  simp only [Value.agg.injEq] at e5
                  have e5 := congrArg Array.toList e5
                  simp only [List.cons.injEq, and_true] at e5
                  obtain ⟨rfl, rfl⟩ := e5
                  have hn1 : nb = bk.vals.length := by obtain ⟨_, _, e, _⟩ := r1.form; injection e
                  have hn2 : mb = bk.cs.length := by obtain ⟨_, _, e, _⟩ := r2.form; injection e with _ e _; rw [← r3, List.length_map]; exact e
                  subst hn1 hn2
                  obtain ⟨gp', offp', Pv2, cv2, Pc2, cc2, lc2, e6, hgp, s0, s1, rv2, rc2, lcm2⟩ := stk_at HRW13.out HMP.out HBK.out
                  simp only [Option.some.injEq, Addr.mk.injEq, and_true] at e6
                  obtain ⟨rfl, rfl⟩ := e6
                  obtain ⟨q3, hq3⟩ : ∃ q, offp + (k + 1) * 2 = q := ⟨_, rfl⟩
                  rw [hq3] at s0 s1
                  have HS3 := Lib.hid (fun W (hW : Below w13.heap.size w13 W) => run_txt (r1.keep hW))
                  have HS4 := Lib.hid (fun W (hW : Below w13.heap.size w13 W) => run_txt (rv2.keep hW))
                  have hgs13 : gs < w13.heap.size := lt_of_heap hf13
                  obtain ⟨z0, z1⟩ := cells2 hf13
                  clear r1 r2 r3 rv2 rc2 lcm2 hf13 hb13 hbt
                  refine Stab.region 182 [.is ((.bool true)), .is ((.bool true)), .is ((.int .i64 0)), .is ((.bool true)), .is ((.bool true)), .is ((.bool true)), .is ((.pointer (some ⟨gs, 0, none⟩))), .is ((.slice Pb bk.vals.length cb)), .is ((.string (strOfNums bk.vals))), .is ((.slice (some ⟨gp, offp, none⟩) (nd + 1) cp)), .is ((.int .i64 (k : Int))), .is ((.int .i64 ((k : Int) + 1))), .is ((.pointer (some ⟨gp, q3, none⟩))), .is ((.pointer (some ⟨gp, q3, none⟩))), .is ((.slice Pv2 bk.vals.length cv2)), .is ((.string (strOfNums bk.vals))), .is ((.bool true)), .is ((.bool true)), .is ((.bool true)), .is ((.pointer (some ⟨gs, 0 + 1, none⟩))), .is ((.slice Qb bk.cs.length db)), .is ((.int .i64 (bk.cs.length : Int))), .is ((.slice (some ⟨gp, offp, none⟩) (nd + 1) cp)), .is ((.int .i64 (k : Int))), .is ((.int .i64 ((k : Int) + 1))), .is ((.pointer (some ⟨gp, q3, none⟩))), .is ((.pointer (some ⟨gp, q3 + 1, none⟩))), .is ((.slice Pc2 bk.cs.length cc2)), .is ((.int .i64 (bk.cs.length : Int))), .is ((.bool true)), .is ((.bool true)), .is ((.bool true))] (by kernel_rfl) (by kernel_rfl) rfl rfl ?_ ?_
                  · with_reducible refine Stab.steps_cons ?_ ?_ ?_
                    · exact Stab.owes_move rfl rfl rfl
                    · exact trivial
                    with_reducible refine Stab.steps_cons ?_ ?_ ?_
                    · exact Stab.owes_move rfl rfl rfl
                    · exact trivial
                    with_reducible refine Stab.steps_cons ?_ ?_ ?_
                    · exact Stab.owes_move rfl rfl rfl
                    · exact trivial
                    with_reducible refine Stab.steps_cons ?_ ?_ ?_
                    · exact Stab.owes_bin rfl rfl rfl (fun W => Go.Proofs.YtlappkflnlbfcaaGreatDoor.Stab.run_eqE _ _ 0 0 true (by decide) W) rfl
                    · exact trivial
                    with_reducible refine Stab.steps_cons ?_ ?_ ?_
                    · exact Stab.owes_pick rfl rfl rfl rfl
                    · exact trivial
                    with_reducible refine Stab.steps_cons ?_ ?_ ?_
                    · exact Stab.owes_move rfl rfl rfl
                    · exact trivial
                    with_reducible refine Stab.steps_cons ?_ ?_ ?_
                    · exact Stab.owes_fieldAt rfl rfl (fun W => run_fSt0 _ _ W) rfl
                    · exact trivial
                    with_reducible refine Stab.steps_cons ?_ ?_ ?_
                    · exact Stab.owes_load rfl (fun v W hb hv => by subst hv; exact run_ldBy ((hb.cell (p := ⟨gs, 0, none⟩) hgs13).trans z0)) rfl
                    · exact trivial
                    with_reducible refine Stab.steps_cons ?_ ?_ ?_
                    · exact Stab.owes_convert rfl (fun v W hb hv => by subst hv; exact HS3.out W hb) rfl
                    · exact trivial
                    with_reducible refine Stab.steps_cons ?_ ?_ ?_
                    · exact Stab.owes_move rfl rfl rfl
                    · exact trivial
                    with_reducible refine Stab.steps_cons ?_ ?_ ?_
                    · exact Stab.owes_move rfl rfl rfl
                    · exact trivial
                    with_reducible refine Stab.steps_cons ?_ ?_ ?_
                    · exact Stab.owes_bin rfl rfl rfl (fun W => run_addK _ _ k W hwk1) rfl
                    · exact trivial
                    with_reducible refine Stab.steps_cons ?_ ?_ ?_
                    · exact Stab.owes_indexAt rfl rfl rfl (fun W => run_idxSt1 W (by omega) hq3) rfl
                    · exact trivial
                    with_reducible refine Stab.steps_cons ?_ ?_ ?_
                    · exact Stab.owes_fieldAt rfl rfl (fun W => run_fSt0 _ _ W) rfl
                    · exact trivial
                    with_reducible refine Stab.steps_cons ?_ ?_ ?_
                    · exact Stab.owes_load rfl (fun v W hb hv => by subst hv; exact run_ldBy ((hb.cell (p := ⟨gp, q3, none⟩) hgp).trans s0)) rfl
                    · exact trivial
                    with_reducible refine Stab.steps_cons ?_ ?_ ?_
                    · exact Stab.owes_convert rfl (fun v W hb hv => by subst hv; exact HS4.out W hb) rfl
                    · exact trivial
                    with_reducible refine Stab.steps_cons ?_ ?_ ?_
                    · exact Stab.owes_bin rfl rfl rfl (fun W => run_eqSS _ _ _ W) rfl
                    · exact trivial
                    with_reducible refine Stab.steps_cons ?_ ?_ ?_
                    · exact Stab.owes_pick rfl rfl rfl rfl
                    · exact trivial
                    with_reducible refine Stab.steps_cons ?_ ?_ ?_
                    · exact Stab.owes_move rfl rfl rfl
                    · exact trivial
                    with_reducible refine Stab.steps_cons ?_ ?_ ?_
                    · exact Stab.owes_fieldAt rfl rfl (fun W => run_fSt1 _ _ W) rfl
                    · exact trivial
                    with_reducible refine Stab.steps_cons ?_ ?_ ?_
                    · exact Stab.owes_load rfl (fun v W hb hv => by subst hv; exact run_ldCt _ _ _ _ _ W ((hb.cell (p := ⟨gs, 1, none⟩) hgs13).trans z1)) rfl
                    · exact trivial
                    with_reducible refine Stab.steps_cons ?_ ?_ ?_
                    · exact Stab.owes_length rfl rfl (fun W => run_lenCt _ _ _ _ W) rfl
                    · exact trivial
                    with_reducible refine Stab.steps_cons ?_ ?_ ?_
                    · exact Stab.owes_move rfl rfl rfl
                    · exact trivial
                    with_reducible refine Stab.steps_cons ?_ ?_ ?_
                    · exact Stab.owes_move rfl rfl rfl
                    · exact trivial
                    with_reducible refine Stab.steps_cons ?_ ?_ ?_
                    · exact Stab.owes_bin rfl rfl rfl (fun W => run_addK _ _ k W hwk1) rfl
                    · exact trivial
                    with_reducible refine Stab.steps_cons ?_ ?_ ?_
                    · exact Stab.owes_indexAt rfl rfl rfl (fun W => run_idxSt1 W (by omega) hq3) rfl
                    · exact trivial
                    with_reducible refine Stab.steps_cons ?_ ?_ ?_
                    · exact Stab.owes_fieldAt rfl rfl (fun W => run_fSt1 _ _ W) rfl
                    · exact trivial
                    with_reducible refine Stab.steps_cons ?_ ?_ ?_
                    · exact Stab.owes_load rfl (fun v W hb hv => by subst hv; exact run_ldCt _ _ _ _ _ W ((hb.cell (p := ⟨gp, q3 + 1, none⟩) hgp).trans s1)) rfl
                    · exact trivial
                    with_reducible refine Stab.steps_cons ?_ ?_ ?_
                    · exact Stab.owes_length rfl rfl (fun W => run_lenCt _ _ _ _ W) rfl
                    · exact trivial
                    with_reducible refine Stab.steps_cons ?_ ?_ ?_
                    · exact Stab.owes_bin rfl rfl rfl (fun W => Go.Proofs.YtlappkflnlbfcaaGreatDoor.Stab.run_eqI _ _ (bk.cs.length : Int) (bk.cs.length : Int) true (by simp) W) rfl
                    · exact trivial
                    with_reducible refine Stab.steps_cons ?_ ?_ ?_
                    · exact Stab.owes_pick rfl rfl rfl rfl
                    · exact trivial
                    with_reducible refine Stab.steps_cons ?_ ?_ ?_
                    · exact Stab.owes_assign rfl rfl rfl
                    · exact trivial
                    exact Stab.steps_nil
                  intro w14 hb _
                  simp only [Act.put, List.setIfInBounds_toArray, List.set_cons_succ, List.set_cons_zero]
                  have HW14 := Lib.hid (HW13.out.trans (hb.mono HW13.out.size))
                  go_wp2_with fail
                  exact bodyPost_ret (v := .bool true) (by simp [results, Tryz.results7, go_sem]) rfl ⟨rfl, by first | exact HW14.out | (rw [← hx]; exact HW14.out)⟩)
          · have hd0' : ((dk : Int) == 0) = false := by simp; omega
            have hd1' : (dk == 0) = false := by simpa using hd0
            have hd2' : ((dk : Int) != 0) = true := by simp; omega
            go_wp2_with fail
            all_goals first
              | exact absurd (by assumption) (undef_ne _)
              | exact bodyPost_ret (v := .bool true) (by simp [results, Tryz.results7, go_sem]) rfl ⟨rfl, by first | exact HB6.out | (rw [← hx]; exact HB6.out)⟩
        · obtain rfl : k = nd := by omega
          have y3 : decide ((k : Int) < (k : Int)) = false := decide_eq_false (by omega)
          have HCUT : Hid (pathR E ((l.take k).map (·.1)) = ((pathR E (l.map (·.1))).1.take (k + 1), 0)) := by
            show _ = _
            rw [List.map_take]
            exact path_take HFF.out (by rw [List.length_map, HN.out]; exact Nat.le_refl _) fun h => absurd h (by rw [List.length_map, HN.out]; exact Nat.lt_irrefl _)
          go_wp2_with fail
          have HBB := Lib.hid HB6.out
          have HNK : Hid ((l.take k).length = k) := by show _ = _; rw [List.length_take, HN.out]; have := HKN.out; omega
          have HTL : Hid (((pathR E (l.map (·.1))).1.take (k + 1)).length = k + 1) := by show _ = _; rw [List.length_take, (path_ok HFF.out).2.2.2, List.length_map, HN.out]; have := HKN.out; omega
          have HRI := Lib.hid (HR.out.keep HBB.out)
          have hkc : k ≤ c := by obtain ⟨⟨_, _, e, h1, _⟩, _⟩ := HR.out; injection e with _ e2 e3; have := HN.out; have := HKN.out; omega
          refine Stab.region 182 [.is (.agg #[.slice V.Pt V.nt V.ct, .slice V.Pf V.nf V.cf, .int .i64 E.tables, .int .i64 E.mems, .slice V.Pg V.ng V.cg, .slice V.Pl V.nl V.cl, .slice V.Pr V.nr V.cr]), .fits (fun v W => ∃ V2, v = evV V2 E ∧ EnvOk elGP W V2 E), .is (.slice A k c), .is (.int .i64 (k : Int)), .is (.slice A k c), .fits (fun v W => ∃ P2 c2 rows2, v = .tuple #[.slice P2 (k + 1) c2, .int .i64 0] ∧ Row elS W (.slice P2 (k + 1) c2) rows2 ∧ rows2.map (·.1) = (pathR E (l.map (·.1))).1.take (k + 1)), .fits (fun v W => ∃ P2 c2 rows2, v = .tuple #[.slice P2 (k + 1) c2, .int .i64 0] ∧ Row elS W (.slice P2 (k + 1) c2) rows2 ∧ rows2.map (·.1) = (pathR E (l.map (·.1))).1.take (k + 1)), .fits (fun v W => ∃ P2 c2 rows2, v = .slice P2 (k + 1) c2 ∧ Row elS W (.slice P2 (k + 1) c2) rows2 ∧ rows2.map (·.1) = (pathR E (l.map (·.1))).1.take (k + 1)), .is (.int .i64 0), .fits (fun v W => ∃ P2 c2 rows2, v = .slice P2 (k + 1) c2 ∧ Row elS W (.slice P2 (k + 1) c2) rows2 ∧ rows2.map (·.1) = (pathR E (l.map (·.1))).1.take (k + 1)), .is (.int .i64 0)] (by kernel_rfl) (by kernel_rfl) rfl rfl ?_ ?_
          · with_reducible refine Stab.steps_cons ?_ ?_ ?_
            · exact Stab.owes_load rfl (fun v W hb hv => by subst hv; exact run_ldEn (blk HX6.out hb)) rfl
            · exact trivial
            with_reducible refine Stab.steps_cons ?_ ?_ ?_
            · (refine Stab.owes_call Tryz.func13 (by kernel_rfl) (by kernel_rfl) rfl (fun vs W hb hall => ?_) rfl; obtain ⟨_, _, rfl, rfl, rfl⟩ := hall; refine (HC.out W V E (HE.out.keep (HBB.out.trans (hb.mono HBB.out.size))) HG.out).mono ?_; rintro e w2 ⟨⟨V2, rfl, hev⟩, hb2⟩; exact ⟨_, rfl, hb2, V2, rfl, hev⟩)
            · exact (fun v w w' h hb => by obtain ⟨V2, h1, h2⟩ := h; exact ⟨V2, h1, h2.keep hb⟩)
            with_reducible refine Stab.steps_cons ?_ ?_ ?_
            · exact Stab.owes_move rfl rfl rfl
            · exact trivial
            with_reducible refine Stab.steps_cons ?_ ?_ ?_
            · exact Stab.owes_move rfl rfl rfl
            · exact trivial
            with_reducible refine Stab.steps_cons ?_ ?_ ?_
            · exact Stab.owes_upto rfl rfl rfl (fun W => run_slIn _ _ _ _ W hkc) rfl
            · exact trivial
            with_reducible refine Stab.steps_cons ?_ ?_ ?_
            · (refine Stab.owes_call Tryz.func21 (by kernel_rfl) (by kernel_rfl) rfl (fun vs W hb hall => ?_) rfl; obtain ⟨_, _, rfl, ⟨V2, rfl, hev⟩, _, _, rfl, rfl, rfl⟩ := hall; have hbw := HBB.out.trans (hb.mono HBB.out.size); refine (pathV_any hev (inrow_take (HR.out.keep hbw) k HKN.out) (HK.out.keep hbw) (HA.out.keep hbw) HF.out HNK.out (by have := HKN.out; omega)).mono ?_; rintro e w2 ⟨P2, np2, cp2, rfl, hpv, hb2⟩; rw [HCUT.out] at hpv ⊢; obtain ⟨rows2, h1, h2, h3⟩ := hpv.1 rfl; have hn2 : np2 = k + 1 := h3.symm.trans HTL.out; subst hn2; exact ⟨_, rfl, hb2, P2, cp2, rows2, rfl, h1, h2⟩)
            · exact (fun v w w' h hb => by obtain ⟨P2, c2, rows2, h1, h2, h3⟩ := h; exact ⟨P2, c2, rows2, h1, h2.keep hb, h3⟩)
            with_reducible refine Stab.steps_cons ?_ ?_ ?_
            · exact Stab.owes_move rfl rfl rfl
            · exact (fun v w w' h hb => by obtain ⟨P2, c2, rows2, h1, h2, h3⟩ := h; exact ⟨P2, c2, rows2, h1, h2.keep hb, h3⟩)
            with_reducible refine Stab.steps_cons ?_ ?_ ?_
            · exact owes_extF rfl rfl (fun v W h => by obtain ⟨P2, c2, rows2, rfl, h2, h3⟩ := h; exact ⟨_, run_ext0 W, P2, c2, rows2, rfl, h2, h3⟩) rfl
            · exact (fun v w w' h hb => by obtain ⟨P2, c2, rows2, h1, h2, h3⟩ := h; exact ⟨P2, c2, rows2, h1, h2.keep hb, h3⟩)
            with_reducible refine Stab.steps_cons ?_ ?_ ?_
            · exact owes_extI rfl rfl (fun v W h => by obtain ⟨P2, c2, rows2, rfl, h2, h3⟩ := h; exact run_ext1 W) rfl
            · exact trivial
            with_reducible refine Stab.steps_cons ?_ ?_ ?_
            · exact Stab.owes_assign rfl rfl rfl
            · exact (fun v w w' h hb => by obtain ⟨P2, c2, rows2, h1, h2, h3⟩ := h; exact ⟨P2, c2, rows2, h1, h2.keep hb, h3⟩)
            with_reducible refine Stab.steps_cons ?_ ?_ ?_
            · exact Stab.owes_assign rfl rfl rfl
            · exact trivial
            exact Stab.steps_nil
          intro z1 z2 z3 z4 z5 w9 hb hI
          obtain ⟨⟨P2, c2, rows2, rfl, hr2, hm2⟩, _⟩ := hI
          simp only [Act.put, List.setIfInBounds_toArray, List.set_cons_succ, List.set_cons_zero]
          have HW9 := Lib.hid (HBB.out.trans (hb.mono HBB.out.size))
          have HX9 := Lib.hid (blk HX6.out hb)
          have HRW9 := Lib.hid (HRW.out.keep hb)
          have HRI9 := Lib.hid (HRI.out.keep hb)
          have HQ := (show ((pathR E (l.map (·.1))).1.take (k + 1))[k]? = some ak by rw [List.getElem?_take_of_lt (Nat.lt_succ_self k)]; exact HAK.out)
          obtain ⟨gq, offq, Pv, cv, Pc, cc, lc, rfl, hgq, u0, u1, hrv, hrc, hlc'⟩ := stk_at hr2 hm2 HQ
          obtain ⟨gp, offp, Pv', cv', Pc', cc', lc', rfl, hgp, s0, s1, hrv', hrc', hlc''⟩ := stk_at HRW9.out HMP.out HAK.out
          have HS1 := Lib.hid (fun W (hW : Below w9.heap.size w9 W) => run_txt (hrv.keep hW))
          have HS2 := Lib.hid (fun W (hW : Below w9.heap.size w9 W) => run_txt (hrv'.keep hW))
          have HST := Lib.hid (stk_is hrv hrc hlc')
          obtain ⟨qq, hqq⟩ : ∃ q, offq + k * 2 = q := ⟨_, rfl⟩
          obtain ⟨qp, hqp⟩ : ∃ q, offp + k * 2 = q := ⟨_, rfl⟩
          rw [hqq] at u0 u1
          rw [hqp] at s0 s1
          obtain ⟨nv, hnv⟩ : ∃ n, ak.vals.length = n := ⟨_, rfl⟩
          obtain ⟨nc, hnc⟩ : ∃ n, ak.cs.length = n := ⟨_, rfl⟩
          rw [hnv] at u0 s0 HS1 HS2 HST
          rw [hnc] at u1 HST
          have hwk1 : IntKind.i64.wrap ((k : Int) + 1) = (k : Int) + 1 := IntWalk.i64_in _ (by have := HKN.out; omega)
          have HR2 := Lib.hid hr2
          have HM2 := Lib.hid hm2
          have HGQ := Lib.hid hgq
          clear hb hr2 hm2 HQ hrv hrc hlc' hrv' hrc' hlc'' hnv hnc s1
          go_wp2_with fail
          refine Stab.region 182 [.is ((.int .i64 0)), .is ((.bool false)), .is ((.bool false)), .is ((.slice (some ⟨gq, offq, none⟩) (k + 1) c2)), .is ((.int .i64 ((k + 1 : Nat) : Int))), .is ((.int .i64 (k : Int))), .is ((.int .i64 ((k : Int) + 1))), .is ((.bool false)), .is ((.bool false)), .is ((.bool false)), .is ((.slice (some ⟨gq, offq, none⟩) (k + 1) c2)), .is ((.int .i64 (k : Int))), .is ((.pointer (some ⟨gq, qq, none⟩))), .is ((.pointer (some ⟨gq, qq, none⟩))), .is ((.slice Pv nv cv)), .is ((.string (strOfNums ak.vals))), .is ((.slice (some ⟨gp, offp, none⟩) (k + 1) cp)), .is ((.int .i64 (k : Int))), .is ((.pointer (some ⟨gp, qp, none⟩))), .is ((.pointer (some ⟨gp, qp, none⟩))), .is ((.slice Pv' nv cv')), .is ((.string (strOfNums ak.vals))), .is ((.bool false)), .is ((.bool false))] (by kernel_rfl) (by kernel_rfl) rfl rfl ?_ ?_
          · with_reducible refine Stab.steps_cons ?_ ?_ ?_
            · exact Stab.owes_move rfl rfl rfl
            · exact trivial
            with_reducible refine Stab.steps_cons ?_ ?_ ?_
            · exact Stab.owes_bin rfl rfl rfl (fun W => Go.Proofs.YtlappkflnlbfcaaGreatDoor.Stab.run_neE _ _ 0 0 false (by decide) W) rfl
            · exact trivial
            with_reducible refine Stab.steps_cons ?_ ?_ ?_
            · exact Stab.owes_move rfl rfl rfl
            · exact trivial
            with_reducible refine Stab.steps_cons ?_ ?_ ?_
            · exact Stab.owes_move rfl rfl rfl
            · exact trivial
            with_reducible refine Stab.steps_cons ?_ ?_ ?_
            · exact Stab.owes_length rfl rfl (fun W => run_lenSt _ _ _ _ W) rfl
            · exact trivial
            with_reducible refine Stab.steps_cons ?_ ?_ ?_
            · exact Stab.owes_move rfl rfl rfl
            · exact trivial
            with_reducible refine Stab.steps_cons ?_ ?_ ?_
            · exact Stab.owes_bin rfl rfl rfl (fun W => run_addK _ _ k W hwk1) rfl
            · exact trivial
            with_reducible refine Stab.steps_cons ?_ ?_ ?_
            · exact Stab.owes_bin rfl rfl rfl (fun W => Go.Proofs.YtlappkflnlbfcaaGreatDoor.Stab.run_neI _ _ ((k + 1 : Nat) : Int) ((k : Int) + 1) false (by simp) W) rfl
            · exact trivial
            with_reducible refine Stab.steps_cons ?_ ?_ ?_
            · exact Stab.owes_pick rfl rfl rfl rfl
            · exact trivial
            with_reducible refine Stab.steps_cons ?_ ?_ ?_
            · exact Stab.owes_move rfl rfl rfl
            · exact trivial
            with_reducible refine Stab.steps_cons ?_ ?_ ?_
            · exact Stab.owes_move rfl rfl rfl
            · exact trivial
            with_reducible refine Stab.steps_cons ?_ ?_ ?_
            · exact Stab.owes_move rfl rfl rfl
            · exact trivial
            with_reducible refine Stab.steps_cons ?_ ?_ ?_
            · exact Stab.owes_indexAt rfl rfl rfl (fun W => run_idxSt W (Nat.lt_succ_self k) hqq) rfl
            · exact trivial
            with_reducible refine Stab.steps_cons ?_ ?_ ?_
            · exact Stab.owes_fieldAt rfl rfl (fun W => run_fSt0 _ _ W) rfl
            · exact trivial
            with_reducible refine Stab.steps_cons ?_ ?_ ?_
            · exact Stab.owes_load rfl (fun v W hb hv => by subst hv; exact run_ldBy ((hb.cell (p := ⟨gq, qq, none⟩) hgq).trans u0)) rfl
            · exact trivial
            with_reducible refine Stab.steps_cons ?_ ?_ ?_
            · exact Stab.owes_convert rfl (fun v W hb hv => by subst hv; exact HS1.out W hb) rfl
            · exact trivial
            with_reducible refine Stab.steps_cons ?_ ?_ ?_
            · exact Stab.owes_move rfl rfl rfl
            · exact trivial
            with_reducible refine Stab.steps_cons ?_ ?_ ?_
            · exact Stab.owes_move rfl rfl rfl
            · exact trivial
            with_reducible refine Stab.steps_cons ?_ ?_ ?_
            · exact Stab.owes_indexAt rfl rfl rfl (fun W => run_idxSt W (by have := HKN.out; omega) hqp) rfl
            · exact trivial
            with_reducible refine Stab.steps_cons ?_ ?_ ?_
            · exact Stab.owes_fieldAt rfl rfl (fun W => run_fSt0 _ _ W) rfl
            · exact trivial
            with_reducible refine Stab.steps_cons ?_ ?_ ?_
            · exact Stab.owes_load rfl (fun v W hb hv => by subst hv; exact run_ldBy ((hb.cell (p := ⟨gp, qp, none⟩) hgp).trans s0)) rfl
            · exact trivial
            with_reducible refine Stab.steps_cons ?_ ?_ ?_
            · exact Stab.owes_convert rfl (fun v W hb hv => by subst hv; exact HS2.out W hb) rfl
            · exact trivial
            with_reducible refine Stab.steps_cons ?_ ?_ ?_
            · exact Stab.owes_bin rfl rfl rfl (fun W => run_neSS _ _ _ W) rfl
            · exact trivial
            with_reducible refine Stab.steps_cons ?_ ?_ ?_
            · exact Stab.owes_pick rfl rfl rfl rfl
            · exact trivial
            exact Stab.steps_nil
          intro w10 hb _
          simp only [Act.put, List.setIfInBounds_toArray, List.set_cons_succ, List.set_cons_zero]
          have HW10 := Lib.hid (HW9.out.trans (hb.mono HW9.out.size))
          have HX10 := Lib.hid (blk HX9.out hb)
          have HRI10 := Lib.hid (HRI9.out.keep hb)
          have HRW10 := Lib.hid (HRW9.out.keep hb)
          have HST10 := Lib.hid (HST.out.keep hb)
          have u0 := (hb.cell (p := ⟨gq, qq, none⟩) hgq).trans u0
          have u1 := (hb.cell (p := ⟨gq, qq + 1, none⟩) hgq).trans u1
          have hgq : gq < w10.heap.size := Nat.lt_of_lt_of_le hgq hb.size
          clear hb s0 hgp
          go_wp2_with fail
          exact bodyPost_ret (v := .bool true) (by simp [results, Tryz.results7, go_sem]) rfl ⟨rfl, by first | exact HW10.out | (rw [← hx]; exact HW10.out)⟩
      · have hzb : (f == 0) = false := by simpa using hz
        have hzc : (f != 0) = true := by simpa using hz
        clear hz
        go_wp2_with fail
        all_goals first
          | exact absurd (by assumption) (undef_ne _)
          | exact bodyPost_ret (v := .bool true) (by simp [results, Tryz.results7, go_sem]) rfl ⟨rfl, by first | exact HB6.out | (rw [← hx]; exact HB6.out)⟩
end Go.Proofs.YtlappkflnlbfcaaGreatDoor.Chk
