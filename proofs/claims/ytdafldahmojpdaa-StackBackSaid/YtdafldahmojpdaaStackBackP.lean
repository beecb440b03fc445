/- StackBack: there and back: walked (gen_back9.py). -/
import Derived.Test.YtdafldahmojpdaaStkBk
namespace Go.Proofs.Ytdafldahmojpdaa.Stk
open Go.RowKit Row9
set_option maxRecDepth 100000
set_option maxHeartbeats 8000000
set_option linter.unusedVariables false
theorem isV_of {x : Int} {r : List Int} (h : (x :: r).any noT = false) (hx : x ≠ 0) : mayE [x] = true := by
  have h1 : noT x = false := by
    rw [List.any_cons, Bool.or_eq_false_iff] at h
    exact h.1
  unfold noT at h1
  simp only [mayE]
  simpa [hx] using h1
theorem back_no_nil {v u : Value} {l : List ActV} {w : World} (h : Row elA w v l) (hu : Row elB w u []) {op : Int} (hop : w64 op) (hf : fewL (l.map (·.1)) = true) (hm20 : ¬ 20 < ([] : List Int).length) (hno : ([] : List Int).any noT = false) (hcs : (grow (l.map (·.1))).cs = []) : Calls Try.prog 5 #[v, u, .int .i64 op] w (Yes w) := by
  have HH := Lib.hid h
  have HU := Lib.hid hu
  have HA := Lib.hid (awake_any w)
  obtain ⟨A, c, rfl, _⟩ := h.form
  obtain ⟨Pm, cm, rfl, hcap, _⟩ := hu.form
  obtain ⟨n, hn⟩ : ∃ n, l.length = n := ⟨_, rfl⟩
  obtain ⟨mm, hmm⟩ : ∃ mm : List Int, mm = [] := ⟨_, rfl⟩
  rw [← hmm] at HU hm20 hno ⊢
  have HMM := Lib.hid hmm
  obtain ⟨nm, hnm⟩ : ∃ n, mm.length = n := ⟨_, rfl⟩
  rw [hn] at HH ⊢
  rw [hnm] at HU hm20 ⊢
  have HNM := Lib.hid hnm
  have HNO := Lib.hid hno
  have t1 : decide ((20 : Int) < (nm : Int)) = false := decide_eq_false (by omega)
  have t1' : decide (20 < nm) = false := decide_eq_false hm20
  have HN2 : Hid (nm ≤ 20) := (by omega : nm ≤ 20)
  have HM20 : Hid (mm.length ≤ 400000) := by show _ ≤ _; rw [HNM.out]; omega
  have HS := Lib.hid (grow_sane (l.map (·.1)))
  have HLE := Lib.hid (grow_le hf)
  have HF := Lib.hid hf
  obtain ⟨s, hs⟩ : ∃ s, grow (l.map (·.1)) = s := ⟨_, rfl⟩
  have HG0 := Lib.hid hs
  rw [hs] at HS HLE hcs
  have HCS := Lib.hid hcs
  have HCL : Hid (s.cs.length ≤ 400000) := by have := HLE.out.2; exact (by omega : s.cs.length ≤ 400000)
  have hpush := push_ok HS.out hno
  have HP := Lib.hid hpush
  have HE : Hid (mayE ([] : List Int) = true) := rfl
  have HOP := Lib.hid (open_ok (op := op) HS.out HE.out)
  have HPE := Lib.hid (push_ok (open_sane (op := op) HS.out HE.out) (mayE_any HE.out))
  have HCB := Lib.hid (close_back (op := op) HS.out HE.out)
  simp only at HPE
  have q1 : nm = 0 := by rw [← hnm, hmm]; rfl
  subst q1
  clear h hu hn hnm hf hs hm20 hpush hno hcs hmm hcap
  have HOp := Lib.hid hop
  clear hop
  go_enter Try.func5, Try.ntmps5
  go_wp2_with fail
  refine HA.out.mono ?_
  rintro e w1 ⟨rfl, hb⟩
  have HB1 := Lib.hid hb
  have HH1 := Lib.hid (HH.out.keep hb)
  have HU1 := Lib.hid (HU.out.keep hb)
  clear hb HA
  go_wp2_with fail
  have HFW := Lib.hid (few_any HH1.out)
  rw [HF.out] at HFW
  refine HFW.out.mono ?_
  rintro e w2 ⟨rfl, rfl⟩
  have HG := Lib.hid (grown_any HH1.out HF.out)
  rw [HG0.out] at HG
  clear HFW HG0
  go_wp2_with fail
  refine HG.out.mono ?_
  rintro e w3 hen
  obtain ⟨P, np, cp, Q, m, d, rfl, hv, hb⟩ := hen.at_
  have HB3 := Lib.hid (HB1.out.trans (hb.mono HB1.out.size))
  have HB4 := Lib.hid (HB3.out.trans ((below_new w3 (.cells #[.slice P np cp, .slice Q m d] 30)).mono HB3.out.size))
  have HV := Lib.hid (hv.keep (below_new w3 (.cells #[.slice P np cp, .slice Q m d] 30)))
  have HU4 := Lib.hid (HU1.out.keep (hb.trans ((below_new w3 (.cells #[.slice P np cp, .slice Q m d] 30)).mono hb.size)))
  have HX := Lib.hid (heap_new w3 (.cells #[.slice P np cp, .slice Q m d] 30))
  clear hen hv hb HG
  go_wp2_with fail
  generalize w3.alloc (.cells #[.slice P np cp, .slice Q m d] 30) = w4 at *
  obtain ⟨x, hx⟩ : ∃ x, w3.heap.size = x := ⟨_, rfl⟩
  rw [hx] at HX
  simp only [hx]
  clear hx
  obtain ⟨lc, hrb, hrc, hml, hnv, hnl, hnc⟩ := HV.out.rows
  have HNV := Lib.hid hnv
  have HNC := Lib.hid hnc
  clear hrb hrc hml hnv hnl hnc
  have HK := Lib.hid (Push_st HV.out HU4.out (by have := HLE.out.1; omega) (by have := HLE.out.2; omega) HM20.out)
  rw [HP.out] at HK
  have hm0 : m = 0 := by
    have := HNC.out
    rw [HCS.out] at this
    simpa using this.symm
  subst hm0
  refine HK.out.mono ?_
  rintro e w5 hen
  obtain ⟨P5, n5, c5, Q5, m5, d5, rfl, hv, hb⟩ := hen.of
  have HK5 := Lib.hid (hb.trans ((below_new w5 (.cells #[.slice P5 n5 c5, .slice Q5 m5 d5] 30)).mono hb.size))
  have HB6 := Lib.hid (HB4.out.trans (HK5.out.mono HB4.out.size))
  have HV5 := Lib.hid (hv.keep (below_new w5 (.cells #[.slice P5 n5 c5, .slice Q5 m5 d5] 30)))
  have HVs := Lib.hid (HV.out.keep HK5.out)
  have HU6 := Lib.hid (HU4.out.keep HK5.out)
  have HX6 := Lib.hid (blk HX.out HK5.out)
  have HX6' := Lib.hid (blk HX.out hb)
  obtain ⟨x0, x1⟩ := cells2 HX6'.out
  have hxl : x < w5.heap.size := lt_of_heap HX6'.out
  clear hen hv HK
  clear hb
  go_wp2_with fail
  clear x0 x1 hxl HX6'
  have HK10 := Lib.hid (below_new (w5.alloc (.cells #[.slice P5 n5 c5, .slice Q5 m5 d5] 30)) (.cells #[] 5))
  have HB10 := Lib.hid (HB6.out.trans (HK10.out.mono HB6.out.size))
  have HVs10 := Lib.hid (HVs.out.keep HK10.out)
  have HX10 := Lib.hid (blk HX6.out HK10.out)
  have HE10 := Lib.hid (row_nil_new (w5.alloc (.cells #[.slice P5 n5 c5, .slice Q5 m5 d5] 30)))
  rw [size_new] at HE10
  have HU10 := Lib.hid (HU6.out.keep HK10.out)
  generalize (w5.alloc (.cells #[.slice P5 n5 c5, .slice Q5 m5 d5] 30)).alloc (.cells #[] 5) = w10 at *
  obtain ⟨pf, hpf⟩ : ∃ q, w5.heap.size + 1 = q := ⟨_, rfl⟩
  rw [hpf] at HE10
  simp only [hpf]
  clear hpf
  have HQ := Lib.hid (Open_st (op := op) HVs10.out HE10.out HOp.out (by have := HLE.out.1; omega) (by have := HLE.out.2; omega) (by simp))
  rw [HOP.out] at HQ
  refine HQ.out.mono ?_
  rintro e w11 hen
  obtain ⟨Pc, nc, cc, Qc, mc, dc, rfl, hv, hb⟩ := hen.of
  have HK12 := Lib.hid (hb.trans ((below_new w11 (.cells #[.slice Pc nc cc, .slice Qc mc dc] 30)).mono hb.size))
  have HB12 := Lib.hid (HB10.out.trans (HK12.out.mono HB10.out.size))
  have HV12 := Lib.hid (hv.keep (below_new w11 (.cells #[.slice Pc nc cc, .slice Qc mc dc] 30)))
  have HVs12 := Lib.hid (HVs10.out.keep HK12.out)
  have HX12 := Lib.hid (blk HX10.out HK12.out)
  have HE12 := Lib.hid (HE10.out.keep HK12.out)
  clear hen hv hb HQ
  go_wp2_with fail
  generalize w11.alloc (.cells #[.slice Pc nc cc, .slice Qc mc dc] 30) = w12 at *
  have HR := Lib.hid (Push_st HV12.out HE12.out (by have := HLE.out.1; show s.vals.length ≤ _; omega) (by have := HLE.out.2; show (s.cs ++ [_]).length ≤ _; rw [List.length_append, List.length_singleton]; omega) (by simp))
  rw [HPE.out] at HR
  refine HR.out.mono ?_
  rintro e w13 hen
  obtain ⟨Pd, nd, cd, Qd, md, dd, rfl, hv, hb⟩ := hen.of
  have HK14 := Lib.hid (hb.trans ((below_new w13 (.cells #[.slice Pd nd cd, .slice Qd md dd] 30)).mono hb.size))
  have HB14 := Lib.hid (HB12.out.trans (HK14.out.mono HB12.out.size))
  have HV14 := Lib.hid (hv.keep (below_new w13 (.cells #[.slice Pd nd cd, .slice Qd md dd] 30)))
  have HVs14 := Lib.hid (HVs12.out.keep HK14.out)
  have HX14 := Lib.hid (blk HX12.out HK14.out)
  have HE14 := Lib.hid (HE12.out.keep HK14.out)
  clear hen hv hb HR
  go_wp2_with fail
  generalize w13.alloc (.cells #[.slice Pd nd cd, .slice Qd md dd] 30) = w14 at *
  have HT := Lib.hid (Close_st HV14.out (by have := HLE.out.1; show (s.vals ++ _).length ≤ _; rw [List.length_append]; simp; omega) (by have := HLE.out.2; show (s.cs ++ [_]).length ≤ _; rw [List.length_append, List.length_singleton]; omega))
  rw [HCB.out] at HT
  refine HT.out.mono ?_
  rintro e w15 hen
  obtain ⟨Px, nx, cx, Qx, mx, dx, Pk, nk, ck, rfl, hv, hre, hb⟩ := hen.of
  simp only at hre
  simp only [HNV.out]
  have HKb := Lib.hid (below2 w15 (.cells #[.slice Px nx cx, .slice Qx mx dx] 30) (.cells #[.int .i64 op, .slice Pk nk ck, .int .i64 (np : Int), .bool false] 46))
  have HK16 := Lib.hid (hb.trans (HKb.out.mono hb.size))
  have HB16 := Lib.hid (HB14.out.trans (HK16.out.mono HB14.out.size))
  have HVs16 := Lib.hid (HVs14.out.keep HK16.out)
  have HV16 := Lib.hid (hv.keep HKb.out)
  have HX16 := Lib.hid (blk HX14.out HK16.out)
  have HE16 := Lib.hid (HE14.out.keep HK16.out)
  have HRE := Lib.hid (hre.keep HKb.out)
  have HP16 := Lib.hid (blk (heap_new w15 (.cells #[.slice Px nx cx, .slice Qx mx dx] 30)) (below_new (w15.alloc (.cells #[.slice Px nx cx, .slice Qx mx dx] 30)) (.cells #[.int .i64 op, .slice Pk nk ck, .int .i64 (np : Int), .bool false] 46)))
  have HR16 := Lib.hid (heap_new (w15.alloc (.cells #[.slice Px nx cx, .slice Qx mx dx] 30)) (.cells #[.int .i64 op, .slice Pk nk ck, .int .i64 (np : Int), .bool false] 46))
  simp only [size_new] at HR16
  clear hen hv hb hre HT
  go_wp2_with fail
  generalize (w15.alloc (.cells #[.slice Px nx cx, .slice Qx mx dx] 30)).alloc (.cells #[.int .i64 op, .slice Pk nk ck, .int .i64 (np : Int), .bool false] 46) = w16 at *
  obtain ⟨o1, ho1⟩ : ∃ o, w15.heap.size = o := ⟨_, rfl⟩
  obtain ⟨o2, ho2⟩ : ∃ o, o1 + 1 = o := ⟨_, rfl⟩
  rw [ho1] at HP16 HR16
  rw [ho2] at HR16
  simp only [ho1, ho2]
  clear ho1 ho2
  have HS1 := Lib.hid (fun W (hW : Below w16.heap.size w16 W) => run_txt (HE16.out.keep hW))
  have HS2 := Lib.hid (fun W (hW : Below w16.heap.size w16 W) => run_txt (HRE.out.keep hW))
  generalize strOfNums ([] : List Int) = S1 at HS1 HS2
  refine Stab.region 144 [.is (.bool true), .is (.bool true), .is (.int .i64 0), .is (.bool true), .is (.bool true), .is (.bool true), .is (.int .i64 0), .is (.bool true), .is (.bool true), .is (.bool true), .is (.int .i64 0), .is (.bool true), .is (.bool true), .is (.bool true), .is (.pointer (some ⟨o2, 0, none⟩)), .is (.int .i64 op), .is (.int .i64 op), .is (.bool true), .is (.bool true), .is (.bool true), .is (.pointer (some ⟨o2, 1, none⟩)), .is (.slice Pk nk ck), .is (.string S1), .is (.slice (some ⟨pf, 0, none⟩) 0 0), .is (.string S1), .is (.bool true), .is (.bool true), .is (.bool true), .is (.pointer (some ⟨o2, 3, none⟩)), .is (.bool false), .is (.bool true), .is (.bool true), .is (.bool true), .is (.pointer (some ⟨o2, 2, none⟩)), .is (.int .i64 (np : Int)), .is (.pointer (some ⟨x, 0, none⟩)), .is (.slice P np cp), .is (.int .i64 (np : Int)), .is (.bool true), .is (.bool true), .is (.bool true), .is (.agg #[.slice Px nx cx, .slice Qx mx dx]), .fits (fun v W => StIs elD W v s), .is (.agg #[.slice P np cp, .slice Q 0 d]), .fits (fun v W => StIs elD W v s), .is (.bool true), .is (.bool true), .is (.bool true)] (by kernel_rfl) (by kernel_rfl) rfl rfl ?_ ?_
  · with_reducible refine Stab.steps_cons ?_ ?_ ?_
    · exact Stab.owes_move rfl rfl rfl
    · exact trivial
    with_reducible refine Stab.steps_cons ?_ ?_ ?_
    · exact Stab.owes_move rfl rfl rfl
    · exact trivial
    with_reducible refine Stab.steps_cons ?_ ?_ ?_
    · exact Stab.owes_move rfl rfl rfl
    · exact trivial
    with_reducible refine Stab.steps_cons ?_ ?_ ?_
    · exact Stab.owes_bin rfl rfl rfl (fun W => Stab.run_eqE _ _ 0 0 true rfl W) rfl
    · exact trivial
    with_reducible refine Stab.steps_cons ?_ ?_ ?_
    · exact Stab.owes_pick rfl rfl rfl rfl
    · exact trivial
    with_reducible refine Stab.steps_cons ?_ ?_ ?_
    · exact Stab.owes_move rfl rfl rfl
    · exact trivial
    with_reducible refine Stab.steps_cons ?_ ?_ ?_
    · exact Stab.owes_move rfl rfl rfl
    · exact trivial
    with_reducible refine Stab.steps_cons ?_ ?_ ?_
    · exact Stab.owes_bin rfl rfl rfl (fun W => Stab.run_eqE _ _ 0 0 true rfl W) rfl
    · exact trivial
    with_reducible refine Stab.steps_cons ?_ ?_ ?_
    · exact Stab.owes_pick rfl rfl rfl rfl
    · exact trivial
    with_reducible refine Stab.steps_cons ?_ ?_ ?_
    · exact Stab.owes_move rfl rfl rfl
    · exact trivial
    with_reducible refine Stab.steps_cons ?_ ?_ ?_
    · exact Stab.owes_move rfl rfl rfl
    · exact trivial
    with_reducible refine Stab.steps_cons ?_ ?_ ?_
    · exact Stab.owes_bin rfl rfl rfl (fun W => Stab.run_eqE _ _ 0 0 true rfl W) rfl
    · exact trivial
    with_reducible refine Stab.steps_cons ?_ ?_ ?_
    · exact Stab.owes_pick rfl rfl rfl rfl
    · exact trivial
    with_reducible refine Stab.steps_cons ?_ ?_ ?_
    · exact Stab.owes_move rfl rfl rfl
    · exact trivial
    with_reducible refine Stab.steps_cons ?_ ?_ ?_
    · exact Stab.owes_fieldAt rfl rfl (fun W => Stab.run_fC0 _ W) rfl
    · exact trivial
    with_reducible refine Stab.steps_cons ?_ ?_ ?_
    · exact Stab.owes_load rfl (fun v W hb hv => by subst hv; exact Stab.run_cellI _ _ _ W (cells4 (blk HR16.out hb)).1) rfl
    · exact trivial
    with_reducible refine Stab.steps_cons ?_ ?_ ?_
    · exact Stab.owes_move rfl rfl rfl
    · exact trivial
    with_reducible refine Stab.steps_cons ?_ ?_ ?_
    · exact Stab.owes_bin rfl rfl rfl (fun W => Stab.run_eqI _ _ op op true (by simp) W) rfl
    · exact trivial
    with_reducible refine Stab.steps_cons ?_ ?_ ?_
    · exact Stab.owes_pick rfl rfl rfl rfl
    · exact trivial
    with_reducible refine Stab.steps_cons ?_ ?_ ?_
    · exact Stab.owes_move rfl rfl rfl
    · exact trivial
    with_reducible refine Stab.steps_cons ?_ ?_ ?_
    · exact Stab.owes_fieldAt rfl rfl (fun W => Stab.run_fC1 _ W) rfl
    · exact trivial
    with_reducible refine Stab.steps_cons ?_ ?_ ?_
    · exact Stab.owes_load rfl (fun v W hb hv => by subst hv; exact Stab.run_cellS _ _ _ _ _ W (cells4 (blk HR16.out hb)).2.1) rfl
    · exact trivial
    with_reducible refine Stab.steps_cons ?_ ?_ ?_
    · exact Stab.owes_convert rfl (fun v W hb hv => by subst hv; exact HS2.out W hb) rfl
    · exact trivial
    with_reducible refine Stab.steps_cons ?_ ?_ ?_
    · exact Stab.owes_move rfl rfl rfl
    · exact trivial
    with_reducible refine Stab.steps_cons ?_ ?_ ?_
    · exact Stab.owes_convert rfl (fun v W hb hv => by subst hv; exact HS1.out W hb) rfl
    · exact trivial
    with_reducible refine Stab.steps_cons ?_ ?_ ?_
    · exact Stab.owes_bin rfl rfl rfl (fun W => Stab.run_eqS _ _ S1 S1 true (by simp) W) rfl
    · exact trivial
    with_reducible refine Stab.steps_cons ?_ ?_ ?_
    · exact Stab.owes_pick rfl rfl rfl rfl
    · exact trivial
    with_reducible refine Stab.steps_cons ?_ ?_ ?_
    · exact Stab.owes_move rfl rfl rfl
    · exact trivial
    with_reducible refine Stab.steps_cons ?_ ?_ ?_
    · exact Stab.owes_fieldAt rfl rfl (fun W => Stab.run_fC3 _ W) rfl
    · exact trivial
    with_reducible refine Stab.steps_cons ?_ ?_ ?_
    · exact Stab.owes_load rfl (fun v W hb hv => by subst hv; exact Stab.run_cellT _ _ _ W (cells4 (blk HR16.out hb)).2.2.2) rfl
    · exact trivial
    with_reducible refine Stab.steps_cons ?_ ?_ ?_
    · exact Stab.owes_not rfl rfl (fun W => Stab.run_not false W) rfl
    · exact trivial
    with_reducible refine Stab.steps_cons ?_ ?_ ?_
    · exact Stab.owes_pick rfl rfl rfl rfl
    · exact trivial
    with_reducible refine Stab.steps_cons ?_ ?_ ?_
    · exact Stab.owes_move rfl rfl rfl
    · exact trivial
    with_reducible refine Stab.steps_cons ?_ ?_ ?_
    · exact Stab.owes_fieldAt rfl rfl (fun W => Stab.run_fC2 _ W) rfl
    · exact trivial
    with_reducible refine Stab.steps_cons ?_ ?_ ?_
    · exact Stab.owes_load rfl (fun v W hb hv => by subst hv; exact Stab.run_cellI _ _ _ W (cells4 (blk HR16.out hb)).2.2.1) rfl
    · exact trivial
    with_reducible refine Stab.steps_cons ?_ ?_ ?_
    · exact Stab.owes_fieldAt rfl rfl (fun W => Stab.run_fS0 _ W) rfl
    · exact trivial
    with_reducible refine Stab.steps_cons ?_ ?_ ?_
    · exact Stab.owes_load rfl (fun v W hb hv => by subst hv; exact Stab.run_cellS _ _ _ _ _ W (cells2 (blk HX16.out hb)).1) rfl
    · exact trivial
    with_reducible refine Stab.steps_cons ?_ ?_ ?_
    · exact Stab.owes_length rfl rfl (fun W => Stab.run_lenB _ _ _ _ W) rfl
    · exact trivial
    with_reducible refine Stab.steps_cons ?_ ?_ ?_
    · exact Stab.owes_bin rfl rfl rfl (fun W => Stab.run_eqI _ _ (np : Int) (np : Int) true (by simp) W) rfl
    · exact trivial
    with_reducible refine Stab.steps_cons ?_ ?_ ?_
    · exact Stab.owes_pick rfl rfl rfl rfl
    · exact trivial
    with_reducible refine Stab.steps_cons ?_ ?_ ?_
    · exact Stab.owes_move rfl rfl rfl
    · exact trivial
    with_reducible refine Stab.steps_cons ?_ ?_ ?_
    · exact Stab.owes_load rfl (fun v W hb hv => by subst hv; exact ld_stk (blk HP16.out hb)) rfl
    · exact trivial
    with_reducible refine Stab.steps_cons ?_ ?_ ?_
    · (refine Stab.owes_call Try.func17 (by kernel_rfl) (by kernel_rfl) rfl (fun vs W hb hall => ?_) rfl; obtain ⟨_, _, rfl, rfl, rfl⟩ := hall; refine (theirs_any (HV16.out.keep hb) HCL.out).mono ?_; rintro e w2 ⟨⟨P', n', c', Q', m', d', rfl, hv⟩, hb2⟩; exact ⟨_, rfl, hb2, hv⟩)
    · exact fun v w w' h hb => StIs.keep h hb
    with_reducible refine Stab.steps_cons ?_ ?_ ?_
    · exact Stab.owes_load rfl (fun v W hb hv => by subst hv; exact ld_stk (blk HX16.out hb)) rfl
    · exact trivial
    with_reducible refine Stab.steps_cons ?_ ?_ ?_
    · (refine Stab.owes_call Try.func17 (by kernel_rfl) (by kernel_rfl) rfl (fun vs W hb hall => ?_) rfl; obtain ⟨_, _, rfl, rfl, rfl⟩ := hall; refine (theirs_any (HVs16.out.keep hb) HCL.out).mono ?_; rintro e w2 ⟨⟨P', n', c', Q', m', d', rfl, hv⟩, hb2⟩; exact ⟨_, rfl, hb2, hv⟩)
    · exact fun v w w' h hb => StIs.keep h hb
    with_reducible refine Stab.steps_cons ?_ ?_ ?_
    · (refine Stab.owes_call Try.func16 (by kernel_rfl) (by kernel_rfl) rfl (fun vs W hb hall => ?_) rfl; obtain ⟨v1, _, rfl, h1, v2, _, rfl, h2, rfl⟩ := hall; have h1 : StIs elD W v1 s := h1; have h2 : StIs elD W v2 s := h2; refine (same_yes h1 h2 (by have := HCL.out; omega)).mono ?_; rintro e w2 ⟨rfl, hb2⟩; exact ⟨_, rfl, hb2, rfl⟩)
    · exact trivial
    with_reducible refine Stab.steps_cons ?_ ?_ ?_
    · exact Stab.owes_pick rfl rfl rfl rfl
    · exact trivial
    with_reducible refine Stab.steps_cons ?_ ?_ ?_
    · exact Stab.owes_assign rfl rfl rfl
    · exact trivial
    exact Stab.steps_nil
  · intro y3 y4 w17 hb17 _
    simp only [Act.put, List.setIfInBounds_toArray, List.set_cons_succ, List.set_cons_zero]
    go_wp2_with fail
    exact bodyPost_ret (v := .bool true) (by simp [results, Try.results5, go_sem]) rfl ⟨rfl, HB16.out.trans (hb17.mono HB16.out.size)⟩
theorem back_no_zero {v u : Value} {l : List ActV} {r : List Int} {w : World} (h : Row elA w v l) (hu : Row elB w u (0 :: r)) {op : Int} (hop : w64 op) (hf : fewL (l.map (·.1)) = true) (hm20 : ¬ 20 < ((0 :: r) : List Int).length) (hno : ((0 :: r) : List Int).any noT = false) (hcs : (grow (l.map (·.1))).cs = []) : Calls Try.prog 5 #[v, u, .int .i64 op] w (Yes w) := by
  have HH := Lib.hid h
  have HU := Lib.hid hu
  have HA := Lib.hid (awake_any w)
  obtain ⟨A, c, rfl, _⟩ := h.form
  obtain ⟨Pm, cm, rfl, hcap, _⟩ := hu.form
  obtain ⟨n, hn⟩ : ∃ n, l.length = n := ⟨_, rfl⟩
  obtain ⟨mm, hmm⟩ : ∃ mm : List Int, mm = (0 :: r) := ⟨_, rfl⟩
  rw [← hmm] at HU hm20 hno ⊢
  have HMM := Lib.hid hmm
  obtain ⟨nm, hnm⟩ : ∃ n, mm.length = n := ⟨_, rfl⟩
  rw [hn] at HH ⊢
  rw [hnm] at HU hm20 ⊢
  have HNM := Lib.hid hnm
  have HNO := Lib.hid hno
  have t1 : decide ((20 : Int) < (nm : Int)) = false := decide_eq_false (by omega)
  have t1' : decide (20 < nm) = false := decide_eq_false hm20
  have HN2 : Hid (nm ≤ 20) := (by omega : nm ≤ 20)
  have HM20 : Hid (mm.length ≤ 400000) := by show _ ≤ _; rw [HNM.out]; omega
  have HS := Lib.hid (grow_sane (l.map (·.1)))
  have HLE := Lib.hid (grow_le hf)
  have HF := Lib.hid hf
  obtain ⟨s, hs⟩ : ∃ s, grow (l.map (·.1)) = s := ⟨_, rfl⟩
  have HG0 := Lib.hid hs
  rw [hs] at HS HLE hcs
  have HCS := Lib.hid hcs
  have HCL : Hid (s.cs.length ≤ 400000) := by have := HLE.out.2; exact (by omega : s.cs.length ≤ 400000)
  have hpush := push_ok HS.out hno
  have HP := Lib.hid hpush
  have HE : Hid (mayE ([] : List Int) = true) := rfl
  have HOP := Lib.hid (open_ok (op := op) HS.out HE.out)
  have HPE := Lib.hid (push_ok (open_sane (op := op) HS.out HE.out) (mayE_any HE.out))
  have HCB := Lib.hid (close_back (op := op) HS.out HE.out)
  simp only at HPE
  have q1 : decide ((0 : Int) < (nm : Int)) = true := decide_eq_true (by rw [← hnm, hmm]; simp)
  have q1' : decide (0 < nm) = true := decide_eq_true (by rw [← hnm, hmm]; simp)
  obtain ⟨gm, om, hPm, _, _⟩ := byte_at HU.out (j := 0) (by rw [hmm]; simp)
  subst hPm
  have q0 : 0 < nm := of_decide_eq_true q1'
  clear h hu hn hnm hf hs hm20 hpush hno hcs hmm hcap
  have HOp := Lib.hid hop
  clear hop
  go_enter Try.func5, Try.ntmps5
  go_wp2_with fail
  refine HA.out.mono ?_
  rintro e w1 ⟨rfl, hb⟩
  have HB1 := Lib.hid hb
  have HH1 := Lib.hid (HH.out.keep hb)
  have HU1 := Lib.hid (HU.out.keep hb)
  clear hb HA
  go_wp2_with fail
  have HFW := Lib.hid (few_any HH1.out)
  rw [HF.out] at HFW
  refine HFW.out.mono ?_
  rintro e w2 ⟨rfl, rfl⟩
  have HG := Lib.hid (grown_any HH1.out HF.out)
  rw [HG0.out] at HG
  clear HFW HG0
  go_wp2_with fail
  refine HG.out.mono ?_
  rintro e w3 hen
  obtain ⟨P, np, cp, Q, m, d, rfl, hv, hb⟩ := hen.at_
  have HB3 := Lib.hid (HB1.out.trans (hb.mono HB1.out.size))
  have HB4 := Lib.hid (HB3.out.trans ((below_new w3 (.cells #[.slice P np cp, .slice Q m d] 30)).mono HB3.out.size))
  have HV := Lib.hid (hv.keep (below_new w3 (.cells #[.slice P np cp, .slice Q m d] 30)))
  have HU4 := Lib.hid (HU1.out.keep (hb.trans ((below_new w3 (.cells #[.slice P np cp, .slice Q m d] 30)).mono hb.size)))
  have HX := Lib.hid (heap_new w3 (.cells #[.slice P np cp, .slice Q m d] 30))
  clear hen hv hb HG
  go_wp2_with fail
  generalize w3.alloc (.cells #[.slice P np cp, .slice Q m d] 30) = w4 at *
  obtain ⟨x, hx⟩ : ∃ x, w3.heap.size = x := ⟨_, rfl⟩
  rw [hx] at HX
  simp only [hx]
  clear hx
  obtain ⟨lc, hrb, hrc, hml, hnv, hnl, hnc⟩ := HV.out.rows
  have HNV := Lib.hid hnv
  have HNC := Lib.hid hnc
  clear hrb hrc hml hnv hnl hnc
  have HK := Lib.hid (Push_st HV.out HU4.out (by have := HLE.out.1; omega) (by have := HLE.out.2; omega) HM20.out)
  rw [HP.out] at HK
  have hm0 : m = 0 := by
    have := HNC.out
    rw [HCS.out] at this
    simpa using this.symm
  subst hm0
  refine HK.out.mono ?_
  rintro e w5 hen
  obtain ⟨P5, n5, c5, Q5, m5, d5, rfl, hv, hb⟩ := hen.of
  have HK5 := Lib.hid (hb.trans ((below_new w5 (.cells #[.slice P5 n5 c5, .slice Q5 m5 d5] 30)).mono hb.size))
  have HB6 := Lib.hid (HB4.out.trans (HK5.out.mono HB4.out.size))
  have HV5 := Lib.hid (hv.keep (below_new w5 (.cells #[.slice P5 n5 c5, .slice Q5 m5 d5] 30)))
  have HVs := Lib.hid (HV.out.keep HK5.out)
  have HU6 := Lib.hid (HU4.out.keep HK5.out)
  have HX6 := Lib.hid (blk HX.out HK5.out)
  have HX6' := Lib.hid (blk HX.out hb)
  obtain ⟨x0, x1⟩ := cells2 HX6'.out
  have hxl : x < w5.heap.size := lt_of_heap HX6'.out
  clear hen hv HK
  obtain ⟨gm', om', hPm, hgm, hcm, _, _⟩ := byte_at (HU4.out.keep hb) (j := 0) (by rw [HNM.out]; exact q0)
  simp only [Option.some.injEq, Addr.mk.injEq, and_true] at hPm
  obtain ⟨rfl, rfl⟩ := hPm
  rw [show mm.getD 0 0 = 0 from by rw [HMM.out]; rfl] at hcm
  have HCM := Lib.hid hcm
  have HGM := Lib.hid hgm
  simp only [Nat.add_zero] at hcm HCM
  clear hb
  go_wp2_with fail
  clear x0 x1 hxl HX6' hcm hgm
  have HK10 := Lib.hid (below_new (w5.alloc (.cells #[.slice P5 n5 c5, .slice Q5 m5 d5] 30)) (.cells #[] 5))
  have HB10 := Lib.hid (HB6.out.trans (HK10.out.mono HB6.out.size))
  have HVs10 := Lib.hid (HVs.out.keep HK10.out)
  have HX10 := Lib.hid (blk HX6.out HK10.out)
  have HE10 := Lib.hid (row_nil_new (w5.alloc (.cells #[.slice P5 n5 c5, .slice Q5 m5 d5] 30)))
  rw [size_new] at HE10
  have HU10 := Lib.hid (HU6.out.keep HK10.out)
  generalize (w5.alloc (.cells #[.slice P5 n5 c5, .slice Q5 m5 d5] 30)).alloc (.cells #[] 5) = w10 at *
  obtain ⟨pf, hpf⟩ : ∃ q, w5.heap.size + 1 = q := ⟨_, rfl⟩
  rw [hpf] at HE10
  simp only [hpf]
  clear hpf
  have HQ := Lib.hid (Open_st (op := op) HVs10.out HE10.out HOp.out (by have := HLE.out.1; omega) (by have := HLE.out.2; omega) (by simp))
  rw [HOP.out] at HQ
  refine HQ.out.mono ?_
  rintro e w11 hen
  obtain ⟨Pc, nc, cc, Qc, mc, dc, rfl, hv, hb⟩ := hen.of
  have HK12 := Lib.hid (hb.trans ((below_new w11 (.cells #[.slice Pc nc cc, .slice Qc mc dc] 30)).mono hb.size))
  have HB12 := Lib.hid (HB10.out.trans (HK12.out.mono HB10.out.size))
  have HV12 := Lib.hid (hv.keep (below_new w11 (.cells #[.slice Pc nc cc, .slice Qc mc dc] 30)))
  have HVs12 := Lib.hid (HVs10.out.keep HK12.out)
  have HX12 := Lib.hid (blk HX10.out HK12.out)
  have HE12 := Lib.hid (HE10.out.keep HK12.out)
  clear hen hv hb HQ
  go_wp2_with fail
  generalize w11.alloc (.cells #[.slice Pc nc cc, .slice Qc mc dc] 30) = w12 at *
  have HR := Lib.hid (Push_st HV12.out HE12.out (by have := HLE.out.1; show s.vals.length ≤ _; omega) (by have := HLE.out.2; show (s.cs ++ [_]).length ≤ _; rw [List.length_append, List.length_singleton]; omega) (by simp))
  rw [HPE.out] at HR
  refine HR.out.mono ?_
  rintro e w13 hen
  obtain ⟨Pd, nd, cd, Qd, md, dd, rfl, hv, hb⟩ := hen.of
  have HK14 := Lib.hid (hb.trans ((below_new w13 (.cells #[.slice Pd nd cd, .slice Qd md dd] 30)).mono hb.size))
  have HB14 := Lib.hid (HB12.out.trans (HK14.out.mono HB12.out.size))
  have HV14 := Lib.hid (hv.keep (below_new w13 (.cells #[.slice Pd nd cd, .slice Qd md dd] 30)))
  have HVs14 := Lib.hid (HVs12.out.keep HK14.out)
  have HX14 := Lib.hid (blk HX12.out HK14.out)
  have HE14 := Lib.hid (HE12.out.keep HK14.out)
  clear hen hv hb HR
  go_wp2_with fail
  generalize w13.alloc (.cells #[.slice Pd nd cd, .slice Qd md dd] 30) = w14 at *
  have HT := Lib.hid (Close_st HV14.out (by have := HLE.out.1; show (s.vals ++ _).length ≤ _; rw [List.length_append]; simp; omega) (by have := HLE.out.2; show (s.cs ++ [_]).length ≤ _; rw [List.length_append, List.length_singleton]; omega))
  rw [HCB.out] at HT
  refine HT.out.mono ?_
  rintro e w15 hen
  obtain ⟨Px, nx, cx, Qx, mx, dx, Pk, nk, ck, rfl, hv, hre, hb⟩ := hen.of
  simp only at hre
  simp only [HNV.out]
  have HKb := Lib.hid (below2 w15 (.cells #[.slice Px nx cx, .slice Qx mx dx] 30) (.cells #[.int .i64 op, .slice Pk nk ck, .int .i64 (np : Int), .bool false] 46))
  have HK16 := Lib.hid (hb.trans (HKb.out.mono hb.size))
  have HB16 := Lib.hid (HB14.out.trans (HK16.out.mono HB14.out.size))
  have HVs16 := Lib.hid (HVs14.out.keep HK16.out)
  have HV16 := Lib.hid (hv.keep HKb.out)
  have HX16 := Lib.hid (blk HX14.out HK16.out)
  have HE16 := Lib.hid (HE14.out.keep HK16.out)
  have HRE := Lib.hid (hre.keep HKb.out)
  have HP16 := Lib.hid (blk (heap_new w15 (.cells #[.slice Px nx cx, .slice Qx mx dx] 30)) (below_new (w15.alloc (.cells #[.slice Px nx cx, .slice Qx mx dx] 30)) (.cells #[.int .i64 op, .slice Pk nk ck, .int .i64 (np : Int), .bool false] 46)))
  have HR16 := Lib.hid (heap_new (w15.alloc (.cells #[.slice Px nx cx, .slice Qx mx dx] 30)) (.cells #[.int .i64 op, .slice Pk nk ck, .int .i64 (np : Int), .bool false] 46))
  simp only [size_new] at HR16
  clear hen hv hb hre HT
  go_wp2_with fail
  generalize (w15.alloc (.cells #[.slice Px nx cx, .slice Qx mx dx] 30)).alloc (.cells #[.int .i64 op, .slice Pk nk ck, .int .i64 (np : Int), .bool false] 46) = w16 at *
  obtain ⟨o1, ho1⟩ : ∃ o, w15.heap.size = o := ⟨_, rfl⟩
  obtain ⟨o2, ho2⟩ : ∃ o, o1 + 1 = o := ⟨_, rfl⟩
  rw [ho1] at HP16 HR16
  rw [ho2] at HR16
  simp only [ho1, ho2]
  clear ho1 ho2
  have HS1 := Lib.hid (fun W (hW : Below w16.heap.size w16 W) => run_txt (HE16.out.keep hW))
  have HS2 := Lib.hid (fun W (hW : Below w16.heap.size w16 W) => run_txt (HRE.out.keep hW))
  generalize strOfNums ([] : List Int) = S1 at HS1 HS2
  refine Stab.region 144 [.is (.bool true), .is (.bool true), .is (.int .i64 0), .is (.bool true), .is (.bool true), .is (.bool true), .is (.int .i64 0), .is (.bool true), .is (.bool true), .is (.bool true), .is (.int .i64 0), .is (.bool true), .is (.bool true), .is (.bool true), .is (.pointer (some ⟨o2, 0, none⟩)), .is (.int .i64 op), .is (.int .i64 op), .is (.bool true), .is (.bool true), .is (.bool true), .is (.pointer (some ⟨o2, 1, none⟩)), .is (.slice Pk nk ck), .is (.string S1), .is (.slice (some ⟨pf, 0, none⟩) 0 0), .is (.string S1), .is (.bool true), .is (.bool true), .is (.bool true), .is (.pointer (some ⟨o2, 3, none⟩)), .is (.bool false), .is (.bool true), .is (.bool true), .is (.bool true), .is (.pointer (some ⟨o2, 2, none⟩)), .is (.int .i64 (np : Int)), .is (.pointer (some ⟨x, 0, none⟩)), .is (.slice P np cp), .is (.int .i64 (np : Int)), .is (.bool true), .is (.bool true), .is (.bool true), .is (.agg #[.slice Px nx cx, .slice Qx mx dx]), .fits (fun v W => StIs elD W v s), .is (.agg #[.slice P np cp, .slice Q 0 d]), .fits (fun v W => StIs elD W v s), .is (.bool true), .is (.bool true), .is (.bool true)] (by kernel_rfl) (by kernel_rfl) rfl rfl ?_ ?_
  · with_reducible refine Stab.steps_cons ?_ ?_ ?_
    · exact Stab.owes_move rfl rfl rfl
    · exact trivial
    with_reducible refine Stab.steps_cons ?_ ?_ ?_
    · exact Stab.owes_move rfl rfl rfl
    · exact trivial
    with_reducible refine Stab.steps_cons ?_ ?_ ?_
    · exact Stab.owes_move rfl rfl rfl
    · exact trivial
    with_reducible refine Stab.steps_cons ?_ ?_ ?_
    · exact Stab.owes_bin rfl rfl rfl (fun W => Stab.run_eqE _ _ 0 0 true rfl W) rfl
    · exact trivial
    with_reducible refine Stab.steps_cons ?_ ?_ ?_
    · exact Stab.owes_pick rfl rfl rfl rfl
    · exact trivial
    with_reducible refine Stab.steps_cons ?_ ?_ ?_
    · exact Stab.owes_move rfl rfl rfl
    · exact trivial
    with_reducible refine Stab.steps_cons ?_ ?_ ?_
    · exact Stab.owes_move rfl rfl rfl
    · exact trivial
    with_reducible refine Stab.steps_cons ?_ ?_ ?_
    · exact Stab.owes_bin rfl rfl rfl (fun W => Stab.run_eqE _ _ 0 0 true rfl W) rfl
    · exact trivial
    with_reducible refine Stab.steps_cons ?_ ?_ ?_
    · exact Stab.owes_pick rfl rfl rfl rfl
    · exact trivial
    with_reducible refine Stab.steps_cons ?_ ?_ ?_
    · exact Stab.owes_move rfl rfl rfl
    · exact trivial
    with_reducible refine Stab.steps_cons ?_ ?_ ?_
    · exact Stab.owes_move rfl rfl rfl
    · exact trivial
    with_reducible refine Stab.steps_cons ?_ ?_ ?_
    · exact Stab.owes_bin rfl rfl rfl (fun W => Stab.run_eqE _ _ 0 0 true rfl W) rfl
    · exact trivial
    with_reducible refine Stab.steps_cons ?_ ?_ ?_
    · exact Stab.owes_pick rfl rfl rfl rfl
    · exact trivial
    with_reducible refine Stab.steps_cons ?_ ?_ ?_
    · exact Stab.owes_move rfl rfl rfl
    · exact trivial
    with_reducible refine Stab.steps_cons ?_ ?_ ?_
    · exact Stab.owes_fieldAt rfl rfl (fun W => Stab.run_fC0 _ W) rfl
    · exact trivial
    with_reducible refine Stab.steps_cons ?_ ?_ ?_
    · exact Stab.owes_load rfl (fun v W hb hv => by subst hv; exact Stab.run_cellI _ _ _ W (cells4 (blk HR16.out hb)).1) rfl
    · exact trivial
    with_reducible refine Stab.steps_cons ?_ ?_ ?_
    · exact Stab.owes_move rfl rfl rfl
    · exact trivial
    with_reducible refine Stab.steps_cons ?_ ?_ ?_
    · exact Stab.owes_bin rfl rfl rfl (fun W => Stab.run_eqI _ _ op op true (by simp) W) rfl
    · exact trivial
    with_reducible refine Stab.steps_cons ?_ ?_ ?_
    · exact Stab.owes_pick rfl rfl rfl rfl
    · exact trivial
    with_reducible refine Stab.steps_cons ?_ ?_ ?_
    · exact Stab.owes_move rfl rfl rfl
    · exact trivial
    with_reducible refine Stab.steps_cons ?_ ?_ ?_
    · exact Stab.owes_fieldAt rfl rfl (fun W => Stab.run_fC1 _ W) rfl
    · exact trivial
    with_reducible refine Stab.steps_cons ?_ ?_ ?_
    · exact Stab.owes_load rfl (fun v W hb hv => by subst hv; exact Stab.run_cellS _ _ _ _ _ W (cells4 (blk HR16.out hb)).2.1) rfl
    · exact trivial
    with_reducible refine Stab.steps_cons ?_ ?_ ?_
    · exact Stab.owes_convert rfl (fun v W hb hv => by subst hv; exact HS2.out W hb) rfl
    · exact trivial
    with_reducible refine Stab.steps_cons ?_ ?_ ?_
    · exact Stab.owes_move rfl rfl rfl
    · exact trivial
    with_reducible refine Stab.steps_cons ?_ ?_ ?_
    · exact Stab.owes_convert rfl (fun v W hb hv => by subst hv; exact HS1.out W hb) rfl
    · exact trivial
    with_reducible refine Stab.steps_cons ?_ ?_ ?_
    · exact Stab.owes_bin rfl rfl rfl (fun W => Stab.run_eqS _ _ S1 S1 true (by simp) W) rfl
    · exact trivial
    with_reducible refine Stab.steps_cons ?_ ?_ ?_
    · exact Stab.owes_pick rfl rfl rfl rfl
    · exact trivial
    with_reducible refine Stab.steps_cons ?_ ?_ ?_
    · exact Stab.owes_move rfl rfl rfl
    · exact trivial
    with_reducible refine Stab.steps_cons ?_ ?_ ?_
    · exact Stab.owes_fieldAt rfl rfl (fun W => Stab.run_fC3 _ W) rfl
    · exact trivial
    with_reducible refine Stab.steps_cons ?_ ?_ ?_
    · exact Stab.owes_load rfl (fun v W hb hv => by subst hv; exact Stab.run_cellT _ _ _ W (cells4 (blk HR16.out hb)).2.2.2) rfl
    · exact trivial
    with_reducible refine Stab.steps_cons ?_ ?_ ?_
    · exact Stab.owes_not rfl rfl (fun W => Stab.run_not false W) rfl
    · exact trivial
    with_reducible refine Stab.steps_cons ?_ ?_ ?_
    · exact Stab.owes_pick rfl rfl rfl rfl
    · exact trivial
    with_reducible refine Stab.steps_cons ?_ ?_ ?_
    · exact Stab.owes_move rfl rfl rfl
    · exact trivial
    with_reducible refine Stab.steps_cons ?_ ?_ ?_
    · exact Stab.owes_fieldAt rfl rfl (fun W => Stab.run_fC2 _ W) rfl
    · exact trivial
    with_reducible refine Stab.steps_cons ?_ ?_ ?_
    · exact Stab.owes_load rfl (fun v W hb hv => by subst hv; exact Stab.run_cellI _ _ _ W (cells4 (blk HR16.out hb)).2.2.1) rfl
    · exact trivial
    with_reducible refine Stab.steps_cons ?_ ?_ ?_
    · exact Stab.owes_fieldAt rfl rfl (fun W => Stab.run_fS0 _ W) rfl
    · exact trivial
    with_reducible refine Stab.steps_cons ?_ ?_ ?_
    · exact Stab.owes_load rfl (fun v W hb hv => by subst hv; exact Stab.run_cellS _ _ _ _ _ W (cells2 (blk HX16.out hb)).1) rfl
    · exact trivial
    with_reducible refine Stab.steps_cons ?_ ?_ ?_
    · exact Stab.owes_length rfl rfl (fun W => Stab.run_lenB _ _ _ _ W) rfl
    · exact trivial
    with_reducible refine Stab.steps_cons ?_ ?_ ?_
    · exact Stab.owes_bin rfl rfl rfl (fun W => Stab.run_eqI _ _ (np : Int) (np : Int) true (by simp) W) rfl
    · exact trivial
    with_reducible refine Stab.steps_cons ?_ ?_ ?_
    · exact Stab.owes_pick rfl rfl rfl rfl
    · exact trivial
    with_reducible refine Stab.steps_cons ?_ ?_ ?_
    · exact Stab.owes_move rfl rfl rfl
    · exact trivial
    with_reducible refine Stab.steps_cons ?_ ?_ ?_
    · exact Stab.owes_load rfl (fun v W hb hv => by subst hv; exact ld_stk (blk HP16.out hb)) rfl
    · exact trivial
    with_reducible refine Stab.steps_cons ?_ ?_ ?_
    · (refine Stab.owes_call Try.func17 (by kernel_rfl) (by kernel_rfl) rfl (fun vs W hb hall => ?_) rfl; obtain ⟨_, _, rfl, rfl, rfl⟩ := hall; refine (theirs_any (HV16.out.keep hb) HCL.out).mono ?_; rintro e w2 ⟨⟨P', n', c', Q', m', d', rfl, hv⟩, hb2⟩; exact ⟨_, rfl, hb2, hv⟩)
    · exact fun v w w' h hb => StIs.keep h hb
    with_reducible refine Stab.steps_cons ?_ ?_ ?_
    · exact Stab.owes_load rfl (fun v W hb hv => by subst hv; exact ld_stk (blk HX16.out hb)) rfl
    · exact trivial
    with_reducible refine Stab.steps_cons ?_ ?_ ?_
    · (refine Stab.owes_call Try.func17 (by kernel_rfl) (by kernel_rfl) rfl (fun vs W hb hall => ?_) rfl; obtain ⟨_, _, rfl, rfl, rfl⟩ := hall; refine (theirs_any (HVs16.out.keep hb) HCL.out).mono ?_; rintro e w2 ⟨⟨P', n', c', Q', m', d', rfl, hv⟩, hb2⟩; exact ⟨_, rfl, hb2, hv⟩)
    · exact fun v w w' h hb => StIs.keep h hb
    with_reducible refine Stab.steps_cons ?_ ?_ ?_
    · (refine Stab.owes_call Try.func16 (by kernel_rfl) (by kernel_rfl) rfl (fun vs W hb hall => ?_) rfl; obtain ⟨v1, _, rfl, h1, v2, _, rfl, h2, rfl⟩ := hall; have h1 : StIs elD W v1 s := h1; have h2 : StIs elD W v2 s := h2; refine (same_yes h1 h2 (by have := HCL.out; omega)).mono ?_; rintro e w2 ⟨rfl, hb2⟩; exact ⟨_, rfl, hb2, rfl⟩)
    · exact trivial
    with_reducible refine Stab.steps_cons ?_ ?_ ?_
    · exact Stab.owes_pick rfl rfl rfl rfl
    · exact trivial
    with_reducible refine Stab.steps_cons ?_ ?_ ?_
    · exact Stab.owes_assign rfl rfl rfl
    · exact trivial
    exact Stab.steps_nil
  · intro y3 y4 w17 hb17 _
    simp only [Act.put, List.setIfInBounds_toArray, List.set_cons_succ, List.set_cons_zero]
    go_wp2_with fail
    exact bodyPost_ret (v := .bool true) (by simp [results, Try.results5, go_sem]) rfl ⟨rfl, HB16.out.trans (hb17.mono HB16.out.size)⟩
theorem back_no_first {v u : Value} {l : List ActV} {b : Int} {r : List Int} {w : World} (h : Row elA w v l) (hu : Row elB w u (b :: r)) {op : Int} (hop : w64 op) (hf : fewL (l.map (·.1)) = true) (hm20 : ¬ 20 < ((b :: r) : List Int).length) (hno : ((b :: r) : List Int).any noT = false) (hcs : (grow (l.map (·.1))).cs = []) (hb0 : b ≠ 0) : Calls Try.prog 5 #[v, u, .int .i64 op] w (Yes w) := by
  have HH := Lib.hid h
  have HU := Lib.hid hu
  have HA := Lib.hid (awake_any w)
  obtain ⟨A, c, rfl, _⟩ := h.form
  obtain ⟨Pm, cm, rfl, hcap, _⟩ := hu.form
  obtain ⟨n, hn⟩ : ∃ n, l.length = n := ⟨_, rfl⟩
  obtain ⟨mm, hmm⟩ : ∃ mm : List Int, mm = (b :: r) := ⟨_, rfl⟩
  rw [← hmm] at HU hm20 hno ⊢
  have HMM := Lib.hid hmm
  obtain ⟨nm, hnm⟩ : ∃ n, mm.length = n := ⟨_, rfl⟩
  rw [hn] at HH ⊢
  rw [hnm] at HU hm20 ⊢
  have HNM := Lib.hid hnm
  have HNO := Lib.hid hno
  have t1 : decide ((20 : Int) < (nm : Int)) = false := decide_eq_false (by omega)
  have t1' : decide (20 < nm) = false := decide_eq_false hm20
  have HN2 : Hid (nm ≤ 20) := (by omega : nm ≤ 20)
  have HM20 : Hid (mm.length ≤ 400000) := by show _ ≤ _; rw [HNM.out]; omega
  have HS := Lib.hid (grow_sane (l.map (·.1)))
  have HLE := Lib.hid (grow_le hf)
  have HF := Lib.hid hf
  obtain ⟨s, hs⟩ : ∃ s, grow (l.map (·.1)) = s := ⟨_, rfl⟩
  have HG0 := Lib.hid hs
  rw [hs] at HS HLE hcs
  have HCS := Lib.hid hcs
  have HCL : Hid (s.cs.length ≤ 400000) := by have := HLE.out.2; exact (by omega : s.cs.length ≤ 400000)
  have hpush := push_ok HS.out hno
  have HP := Lib.hid hpush
  have HE : Hid (mayE [b] = true) := isV_of (hmm ▸ hno) hb0
  have HOP := Lib.hid (open_ok (op := op) HS.out HE.out)
  have HPE := Lib.hid (push_ok (open_sane (op := op) HS.out HE.out) (mayE_any HE.out))
  have HCB := Lib.hid (close_back (op := op) HS.out HE.out)
  simp only at HPE
  have q1 : decide ((0 : Int) < (nm : Int)) = true := decide_eq_true (by rw [← hnm, hmm]; simp)
  have q1' : decide (0 < nm) = true := decide_eq_true (by rw [← hnm, hmm]; simp)
  obtain ⟨gm, om, hPm, _, _⟩ := byte_at HU.out (j := 0) (by rw [hmm]; simp)
  subst hPm
  have q0 : 0 < nm := of_decide_eq_true q1'
  have q2 : (b != 0) = true := by simpa using hb0
  have q3' : 1 ≤ cm := by simp only [List.length_cons] at hcap; omega
  have q3 : (1 : Int) ≤ (cm : Int) := by omega
  have q3d : decide ((1 : Int) ≤ (cm : Int)) = true := decide_eq_true q3
  clear h hu hn hnm hf hs hm20 hpush hno hcs hmm hcap hb0
  have HOp := Lib.hid hop
  clear hop
  go_enter Try.func5, Try.ntmps5
  go_wp2_with fail
  refine HA.out.mono ?_
  rintro e w1 ⟨rfl, hb⟩
  have HB1 := Lib.hid hb
  have HH1 := Lib.hid (HH.out.keep hb)
  have HU1 := Lib.hid (HU.out.keep hb)
  clear hb HA
  go_wp2_with fail
  have HFW := Lib.hid (few_any HH1.out)
  rw [HF.out] at HFW
  refine HFW.out.mono ?_
  rintro e w2 ⟨rfl, rfl⟩
  have HG := Lib.hid (grown_any HH1.out HF.out)
  rw [HG0.out] at HG
  clear HFW HG0
  go_wp2_with fail
  refine HG.out.mono ?_
  rintro e w3 hen
  obtain ⟨P, np, cp, Q, m, d, rfl, hv, hb⟩ := hen.at_
  have HB3 := Lib.hid (HB1.out.trans (hb.mono HB1.out.size))
  have HB4 := Lib.hid (HB3.out.trans ((below_new w3 (.cells #[.slice P np cp, .slice Q m d] 30)).mono HB3.out.size))
  have HV := Lib.hid (hv.keep (below_new w3 (.cells #[.slice P np cp, .slice Q m d] 30)))
  have HU4 := Lib.hid (HU1.out.keep (hb.trans ((below_new w3 (.cells #[.slice P np cp, .slice Q m d] 30)).mono hb.size)))
  have HX := Lib.hid (heap_new w3 (.cells #[.slice P np cp, .slice Q m d] 30))
  clear hen hv hb HG
  go_wp2_with fail
  generalize w3.alloc (.cells #[.slice P np cp, .slice Q m d] 30) = w4 at *
  obtain ⟨x, hx⟩ : ∃ x, w3.heap.size = x := ⟨_, rfl⟩
  rw [hx] at HX
  simp only [hx]
  clear hx
  obtain ⟨lc, hrb, hrc, hml, hnv, hnl, hnc⟩ := HV.out.rows
  have HNV := Lib.hid hnv
  have HNC := Lib.hid hnc
  clear hrb hrc hml hnv hnl hnc
  have HK := Lib.hid (Push_st HV.out HU4.out (by have := HLE.out.1; omega) (by have := HLE.out.2; omega) HM20.out)
  rw [HP.out] at HK
  have hm0 : m = 0 := by
    have := HNC.out
    rw [HCS.out] at this
    simpa using this.symm
  subst hm0
  refine HK.out.mono ?_
  rintro e w5 hen
  obtain ⟨P5, n5, c5, Q5, m5, d5, rfl, hv, hb⟩ := hen.of
  have HK5 := Lib.hid (hb.trans ((below_new w5 (.cells #[.slice P5 n5 c5, .slice Q5 m5 d5] 30)).mono hb.size))
  have HB6 := Lib.hid (HB4.out.trans (HK5.out.mono HB4.out.size))
  have HV5 := Lib.hid (hv.keep (below_new w5 (.cells #[.slice P5 n5 c5, .slice Q5 m5 d5] 30)))
  have HVs := Lib.hid (HV.out.keep HK5.out)
  have HU6 := Lib.hid (HU4.out.keep HK5.out)
  have HX6 := Lib.hid (blk HX.out HK5.out)
  have HX6' := Lib.hid (blk HX.out hb)
  obtain ⟨x0, x1⟩ := cells2 HX6'.out
  have hxl : x < w5.heap.size := lt_of_heap HX6'.out
  clear hen hv HK
  obtain ⟨gm', om', hPm, hgm, hcm, _, _⟩ := byte_at (HU4.out.keep hb) (j := 0) (by rw [HNM.out]; exact q0)
  simp only [Option.some.injEq, Addr.mk.injEq, and_true] at hPm
  obtain ⟨rfl, rfl⟩ := hPm
  rw [show mm.getD 0 0 = b from by rw [HMM.out]; rfl] at hcm
  have HCM := Lib.hid hcm
  have HGM := Lib.hid hgm
  simp only [Nat.add_zero] at hcm HCM
  clear hb
  go_wp2_with fail
  clear x0 x1 hxl HX6' hcm hgm
  have HK10 := Lib.hid (below_new (w5.alloc (.cells #[.slice P5 n5 c5, .slice Q5 m5 d5] 30)) (.cells #[] 5))
  have HB10 := Lib.hid (HB6.out.trans (HK10.out.mono HB6.out.size))
  have HVs10 := Lib.hid (HVs.out.keep HK10.out)
  have HX10 := Lib.hid (blk HX6.out HK10.out)
  have HE10 := Lib.hid (row_nil_new (w5.alloc (.cells #[.slice P5 n5 c5, .slice Q5 m5 d5] 30)))
  rw [size_new] at HE10
  have HU10 := Lib.hid (HU6.out.keep HK10.out)
  rw [HMM.out] at HU10
  have HF10 := Lib.hid (row_first HU10.out)
  clear HE10
  have HE10 := HF10
  generalize (w5.alloc (.cells #[.slice P5 n5 c5, .slice Q5 m5 d5] 30)).alloc (.cells #[] 5) = w10 at *
  have HQ := Lib.hid (Open_st (op := op) HVs10.out HE10.out HOp.out (by have := HLE.out.1; omega) (by have := HLE.out.2; omega) (by simp))
  rw [HOP.out] at HQ
  refine HQ.out.mono ?_
  rintro e w11 hen
  obtain ⟨Pc, nc, cc, Qc, mc, dc, rfl, hv, hb⟩ := hen.of
  have HK12 := Lib.hid (hb.trans ((below_new w11 (.cells #[.slice Pc nc cc, .slice Qc mc dc] 30)).mono hb.size))
  have HB12 := Lib.hid (HB10.out.trans (HK12.out.mono HB10.out.size))
  have HV12 := Lib.hid (hv.keep (below_new w11 (.cells #[.slice Pc nc cc, .slice Qc mc dc] 30)))
  have HVs12 := Lib.hid (HVs10.out.keep HK12.out)
  have HX12 := Lib.hid (blk HX10.out HK12.out)
  have HE12 := Lib.hid (HE10.out.keep HK12.out)
  clear hen hv hb HQ
  go_wp2_with fail
  generalize w11.alloc (.cells #[.slice Pc nc cc, .slice Qc mc dc] 30) = w12 at *
  have HR := Lib.hid (Push_st HV12.out HE12.out (by have := HLE.out.1; show s.vals.length ≤ _; omega) (by have := HLE.out.2; show (s.cs ++ [_]).length ≤ _; rw [List.length_append, List.length_singleton]; omega) (by simp))
  rw [HPE.out] at HR
  refine HR.out.mono ?_
  rintro e w13 hen
  obtain ⟨Pd, nd, cd, Qd, md, dd, rfl, hv, hb⟩ := hen.of
  have HK14 := Lib.hid (hb.trans ((below_new w13 (.cells #[.slice Pd nd cd, .slice Qd md dd] 30)).mono hb.size))
  have HB14 := Lib.hid (HB12.out.trans (HK14.out.mono HB12.out.size))
  have HV14 := Lib.hid (hv.keep (below_new w13 (.cells #[.slice Pd nd cd, .slice Qd md dd] 30)))
  have HVs14 := Lib.hid (HVs12.out.keep HK14.out)
  have HX14 := Lib.hid (blk HX12.out HK14.out)
  have HE14 := Lib.hid (HE12.out.keep HK14.out)
  clear hen hv hb HR
  go_wp2_with fail
  generalize w13.alloc (.cells #[.slice Pd nd cd, .slice Qd md dd] 30) = w14 at *
  have HT := Lib.hid (Close_st HV14.out (by have := HLE.out.1; show (s.vals ++ _).length ≤ _; rw [List.length_append]; simp; omega) (by have := HLE.out.2; show (s.cs ++ [_]).length ≤ _; rw [List.length_append, List.length_singleton]; omega))
  rw [HCB.out] at HT
  refine HT.out.mono ?_
  rintro e w15 hen
  obtain ⟨Px, nx, cx, Qx, mx, dx, Pk, nk, ck, rfl, hv, hre, hb⟩ := hen.of
  simp only at hre
  simp only [HNV.out]
  have HKb := Lib.hid (below2 w15 (.cells #[.slice Px nx cx, .slice Qx mx dx] 30) (.cells #[.int .i64 op, .slice Pk nk ck, .int .i64 (np : Int), .bool false] 46))
  have HK16 := Lib.hid (hb.trans (HKb.out.mono hb.size))
  have HB16 := Lib.hid (HB14.out.trans (HK16.out.mono HB14.out.size))
  have HVs16 := Lib.hid (HVs14.out.keep HK16.out)
  have HV16 := Lib.hid (hv.keep HKb.out)
  have HX16 := Lib.hid (blk HX14.out HK16.out)
  have HE16 := Lib.hid (HE14.out.keep HK16.out)
  have HRE := Lib.hid (hre.keep HKb.out)
  have HP16 := Lib.hid (blk (heap_new w15 (.cells #[.slice Px nx cx, .slice Qx mx dx] 30)) (below_new (w15.alloc (.cells #[.slice Px nx cx, .slice Qx mx dx] 30)) (.cells #[.int .i64 op, .slice Pk nk ck, .int .i64 (np : Int), .bool false] 46)))
  have HR16 := Lib.hid (heap_new (w15.alloc (.cells #[.slice Px nx cx, .slice Qx mx dx] 30)) (.cells #[.int .i64 op, .slice Pk nk ck, .int .i64 (np : Int), .bool false] 46))
  simp only [size_new] at HR16
  clear hen hv hb hre HT
  go_wp2_with fail
  generalize (w15.alloc (.cells #[.slice Px nx cx, .slice Qx mx dx] 30)).alloc (.cells #[.int .i64 op, .slice Pk nk ck, .int .i64 (np : Int), .bool false] 46) = w16 at *
  obtain ⟨o1, ho1⟩ : ∃ o, w15.heap.size = o := ⟨_, rfl⟩
  obtain ⟨o2, ho2⟩ : ∃ o, o1 + 1 = o := ⟨_, rfl⟩
  rw [ho1] at HP16 HR16
  rw [ho2] at HR16
  simp only [ho1, ho2]
  clear ho1 ho2
  have HS1 := Lib.hid (fun W (hW : Below w16.heap.size w16 W) => run_txt (HE16.out.keep hW))
  have HS2 := Lib.hid (fun W (hW : Below w16.heap.size w16 W) => run_txt (HRE.out.keep hW))
  generalize strOfNums [b] = S1 at HS1 HS2
  refine Stab.region 144 [.is (.bool true), .is (.bool true), .is (.int .i64 0), .is (.bool true), .is (.bool true), .is (.bool true), .is (.int .i64 0), .is (.bool true), .is (.bool true), .is (.bool true), .is (.int .i64 0), .is (.bool true), .is (.bool true), .is (.bool true), .is (.pointer (some ⟨o2, 0, none⟩)), .is (.int .i64 op), .is (.int .i64 op), .is (.bool true), .is (.bool true), .is (.bool true), .is (.pointer (some ⟨o2, 1, none⟩)), .is (.slice Pk nk ck), .is (.string S1), .is (.slice (some ⟨gm, om, none⟩) 1 cm), .is (.string S1), .is (.bool true), .is (.bool true), .is (.bool true), .is (.pointer (some ⟨o2, 3, none⟩)), .is (.bool false), .is (.bool true), .is (.bool true), .is (.bool true), .is (.pointer (some ⟨o2, 2, none⟩)), .is (.int .i64 (np : Int)), .is (.pointer (some ⟨x, 0, none⟩)), .is (.slice P np cp), .is (.int .i64 (np : Int)), .is (.bool true), .is (.bool true), .is (.bool true), .is (.agg #[.slice Px nx cx, .slice Qx mx dx]), .fits (fun v W => StIs elD W v s), .is (.agg #[.slice P np cp, .slice Q 0 d]), .fits (fun v W => StIs elD W v s), .is (.bool true), .is (.bool true), .is (.bool true)] (by kernel_rfl) (by kernel_rfl) rfl rfl ?_ ?_
  · with_reducible refine Stab.steps_cons ?_ ?_ ?_
    · exact Stab.owes_move rfl rfl rfl
    · exact trivial
    with_reducible refine Stab.steps_cons ?_ ?_ ?_
    · exact Stab.owes_move rfl rfl rfl
    · exact trivial
    with_reducible refine Stab.steps_cons ?_ ?_ ?_
    · exact Stab.owes_move rfl rfl rfl
    · exact trivial
    with_reducible refine Stab.steps_cons ?_ ?_ ?_
    · exact Stab.owes_bin rfl rfl rfl (fun W => Stab.run_eqE _ _ 0 0 true rfl W) rfl
    · exact trivial
    with_reducible refine Stab.steps_cons ?_ ?_ ?_
    · exact Stab.owes_pick rfl rfl rfl rfl
    · exact trivial
    with_reducible refine Stab.steps_cons ?_ ?_ ?_
    · exact Stab.owes_move rfl rfl rfl
    · exact trivial
    with_reducible refine Stab.steps_cons ?_ ?_ ?_
    · exact Stab.owes_move rfl rfl rfl
    · exact trivial
    with_reducible refine Stab.steps_cons ?_ ?_ ?_
    · exact Stab.owes_bin rfl rfl rfl (fun W => Stab.run_eqE _ _ 0 0 true rfl W) rfl
    · exact trivial
    with_reducible refine Stab.steps_cons ?_ ?_ ?_
    · exact Stab.owes_pick rfl rfl rfl rfl
    · exact trivial
    with_reducible refine Stab.steps_cons ?_ ?_ ?_
    · exact Stab.owes_move rfl rfl rfl
    · exact trivial
    with_reducible refine Stab.steps_cons ?_ ?_ ?_
    · exact Stab.owes_move rfl rfl rfl
    · exact trivial
    with_reducible refine Stab.steps_cons ?_ ?_ ?_
    · exact Stab.owes_bin rfl rfl rfl (fun W => Stab.run_eqE _ _ 0 0 true rfl W) rfl
    · exact trivial
    with_reducible refine Stab.steps_cons ?_ ?_ ?_
    · exact Stab.owes_pick rfl rfl rfl rfl
    · exact trivial
    with_reducible refine Stab.steps_cons ?_ ?_ ?_
    · exact Stab.owes_move rfl rfl rfl
    · exact trivial
    with_reducible refine Stab.steps_cons ?_ ?_ ?_
    · exact Stab.owes_fieldAt rfl rfl (fun W => Stab.run_fC0 _ W) rfl
    · exact trivial
    with_reducible refine Stab.steps_cons ?_ ?_ ?_
    · exact Stab.owes_load rfl (fun v W hb hv => by subst hv; exact Stab.run_cellI _ _ _ W (cells4 (blk HR16.out hb)).1) rfl
    · exact trivial
    with_reducible refine Stab.steps_cons ?_ ?_ ?_
    · exact Stab.owes_move rfl rfl rfl
    · exact trivial
    with_reducible refine Stab.steps_cons ?_ ?_ ?_
    · exact Stab.owes_bin rfl rfl rfl (fun W => Stab.run_eqI _ _ op op true (by simp) W) rfl
    · exact trivial
    with_reducible refine Stab.steps_cons ?_ ?_ ?_
    · exact Stab.owes_pick rfl rfl rfl rfl
    · exact trivial
    with_reducible refine Stab.steps_cons ?_ ?_ ?_
    · exact Stab.owes_move rfl rfl rfl
    · exact trivial
    with_reducible refine Stab.steps_cons ?_ ?_ ?_
    · exact Stab.owes_fieldAt rfl rfl (fun W => Stab.run_fC1 _ W) rfl
    · exact trivial
    with_reducible refine Stab.steps_cons ?_ ?_ ?_
    · exact Stab.owes_load rfl (fun v W hb hv => by subst hv; exact Stab.run_cellS _ _ _ _ _ W (cells4 (blk HR16.out hb)).2.1) rfl
    · exact trivial
    with_reducible refine Stab.steps_cons ?_ ?_ ?_
    · exact Stab.owes_convert rfl (fun v W hb hv => by subst hv; exact HS2.out W hb) rfl
    · exact trivial
    with_reducible refine Stab.steps_cons ?_ ?_ ?_
    · exact Stab.owes_move rfl rfl rfl
    · exact trivial
    with_reducible refine Stab.steps_cons ?_ ?_ ?_
    · exact Stab.owes_convert rfl (fun v W hb hv => by subst hv; exact HS1.out W hb) rfl
    · exact trivial
    with_reducible refine Stab.steps_cons ?_ ?_ ?_
    · exact Stab.owes_bin rfl rfl rfl (fun W => Stab.run_eqS _ _ S1 S1 true (by simp) W) rfl
    · exact trivial
    with_reducible refine Stab.steps_cons ?_ ?_ ?_
    · exact Stab.owes_pick rfl rfl rfl rfl
    · exact trivial
    with_reducible refine Stab.steps_cons ?_ ?_ ?_
    · exact Stab.owes_move rfl rfl rfl
    · exact trivial
    with_reducible refine Stab.steps_cons ?_ ?_ ?_
    · exact Stab.owes_fieldAt rfl rfl (fun W => Stab.run_fC3 _ W) rfl
    · exact trivial
    with_reducible refine Stab.steps_cons ?_ ?_ ?_
    · exact Stab.owes_load rfl (fun v W hb hv => by subst hv; exact Stab.run_cellT _ _ _ W (cells4 (blk HR16.out hb)).2.2.2) rfl
    · exact trivial
    with_reducible refine Stab.steps_cons ?_ ?_ ?_
    · exact Stab.owes_not rfl rfl (fun W => Stab.run_not false W) rfl
    · exact trivial
    with_reducible refine Stab.steps_cons ?_ ?_ ?_
    · exact Stab.owes_pick rfl rfl rfl rfl
    · exact trivial
    with_reducible refine Stab.steps_cons ?_ ?_ ?_
    · exact Stab.owes_move rfl rfl rfl
    · exact trivial
    with_reducible refine Stab.steps_cons ?_ ?_ ?_
    · exact Stab.owes_fieldAt rfl rfl (fun W => Stab.run_fC2 _ W) rfl
    · exact trivial
    with_reducible refine Stab.steps_cons ?_ ?_ ?_
    · exact Stab.owes_load rfl (fun v W hb hv => by subst hv; exact Stab.run_cellI _ _ _ W (cells4 (blk HR16.out hb)).2.2.1) rfl
    · exact trivial
    with_reducible refine Stab.steps_cons ?_ ?_ ?_
    · exact Stab.owes_fieldAt rfl rfl (fun W => Stab.run_fS0 _ W) rfl
    · exact trivial
    with_reducible refine Stab.steps_cons ?_ ?_ ?_
    · exact Stab.owes_load rfl (fun v W hb hv => by subst hv; exact Stab.run_cellS _ _ _ _ _ W (cells2 (blk HX16.out hb)).1) rfl
    · exact trivial
    with_reducible refine Stab.steps_cons ?_ ?_ ?_
    · exact Stab.owes_length rfl rfl (fun W => Stab.run_lenB _ _ _ _ W) rfl
    · exact trivial
    with_reducible refine Stab.steps_cons ?_ ?_ ?_
    · exact Stab.owes_bin rfl rfl rfl (fun W => Stab.run_eqI _ _ (np : Int) (np : Int) true (by simp) W) rfl
    · exact trivial
    with_reducible refine Stab.steps_cons ?_ ?_ ?_
    · exact Stab.owes_pick rfl rfl rfl rfl
    · exact trivial
    with_reducible refine Stab.steps_cons ?_ ?_ ?_
    · exact Stab.owes_move rfl rfl rfl
    · exact trivial
    with_reducible refine Stab.steps_cons ?_ ?_ ?_
    · exact Stab.owes_load rfl (fun v W hb hv => by subst hv; exact ld_stk (blk HP16.out hb)) rfl
    · exact trivial
    with_reducible refine Stab.steps_cons ?_ ?_ ?_
    · (refine Stab.owes_call Try.func17 (by kernel_rfl) (by kernel_rfl) rfl (fun vs W hb hall => ?_) rfl; obtain ⟨_, _, rfl, rfl, rfl⟩ := hall; refine (theirs_any (HV16.out.keep hb) HCL.out).mono ?_; rintro e w2 ⟨⟨P', n', c', Q', m', d', rfl, hv⟩, hb2⟩; exact ⟨_, rfl, hb2, hv⟩)
    · exact fun v w w' h hb => StIs.keep h hb
    with_reducible refine Stab.steps_cons ?_ ?_ ?_
    · exact Stab.owes_load rfl (fun v W hb hv => by subst hv; exact ld_stk (blk HX16.out hb)) rfl
    · exact trivial
    with_reducible refine Stab.steps_cons ?_ ?_ ?_
    · (refine Stab.owes_call Try.func17 (by kernel_rfl) (by kernel_rfl) rfl (fun vs W hb hall => ?_) rfl; obtain ⟨_, _, rfl, rfl, rfl⟩ := hall; refine (theirs_any (HVs16.out.keep hb) HCL.out).mono ?_; rintro e w2 ⟨⟨P', n', c', Q', m', d', rfl, hv⟩, hb2⟩; exact ⟨_, rfl, hb2, hv⟩)
    · exact fun v w w' h hb => StIs.keep h hb
    with_reducible refine Stab.steps_cons ?_ ?_ ?_
    · (refine Stab.owes_call Try.func16 (by kernel_rfl) (by kernel_rfl) rfl (fun vs W hb hall => ?_) rfl; obtain ⟨v1, _, rfl, h1, v2, _, rfl, h2, rfl⟩ := hall; have h1 : StIs elD W v1 s := h1; have h2 : StIs elD W v2 s := h2; refine (same_yes h1 h2 (by have := HCL.out; omega)).mono ?_; rintro e w2 ⟨rfl, hb2⟩; exact ⟨_, rfl, hb2, rfl⟩)
    · exact trivial
    with_reducible refine Stab.steps_cons ?_ ?_ ?_
    · exact Stab.owes_pick rfl rfl rfl rfl
    · exact trivial
    with_reducible refine Stab.steps_cons ?_ ?_ ?_
    · exact Stab.owes_assign rfl rfl rfl
    · exact trivial
    exact Stab.steps_nil
  · intro y3 y4 w17 hb17 _
    simp only [Act.put, List.setIfInBounds_toArray, List.set_cons_succ, List.set_cons_zero]
    go_wp2_with fail
    exact bodyPost_ret (v := .bool true) (by simp [results, Try.results5, go_sem]) rfl ⟨rfl, HB16.out.trans (hb17.mono HB16.out.size)⟩
theorem back_yes_nil {v u : Value} {l : List ActV} {w : World} (h : Row elA w v l) (hu : Row elB w u []) {op : Int} (hop : w64 op) (hf : fewL (l.map (·.1)) = true) (hm20 : ¬ 20 < ([] : List Int).length) (hno : ([] : List Int).any noT = false) (hcs : (grow (l.map (·.1))).cs ≠ []) : Calls Try.prog 5 #[v, u, .int .i64 op] w (Yes w) := by
  have HH := Lib.hid h
  have HU := Lib.hid hu
  have HA := Lib.hid (awake_any w)
  obtain ⟨A, c, rfl, _⟩ := h.form
  obtain ⟨Pm, cm, rfl, hcap, _⟩ := hu.form
  obtain ⟨n, hn⟩ : ∃ n, l.length = n := ⟨_, rfl⟩
  obtain ⟨mm, hmm⟩ : ∃ mm : List Int, mm = [] := ⟨_, rfl⟩
  rw [← hmm] at HU hm20 hno ⊢
  have HMM := Lib.hid hmm
  obtain ⟨nm, hnm⟩ : ∃ n, mm.length = n := ⟨_, rfl⟩
  rw [hn] at HH ⊢
  rw [hnm] at HU hm20 ⊢
  have HNM := Lib.hid hnm
  have HNO := Lib.hid hno
  have t1 : decide ((20 : Int) < (nm : Int)) = false := decide_eq_false (by omega)
  have t1' : decide (20 < nm) = false := decide_eq_false hm20
  have HN2 : Hid (nm ≤ 20) := (by omega : nm ≤ 20)
  have HM20 : Hid (mm.length ≤ 400000) := by show _ ≤ _; rw [HNM.out]; omega
  have HS := Lib.hid (grow_sane (l.map (·.1)))
  have HLE := Lib.hid (grow_le hf)
  have HF := Lib.hid hf
  obtain ⟨s, hs⟩ : ∃ s, grow (l.map (·.1)) = s := ⟨_, rfl⟩
  have HG0 := Lib.hid hs
  rw [hs] at HS HLE hcs
  have HCS := Lib.hid hcs
  have HCL : Hid (s.cs.length ≤ 400000) := by have := HLE.out.2; exact (by omega : s.cs.length ≤ 400000)
  have hpush := push_ok HS.out hno
  have HP := Lib.hid hpush
  have HWN := Lib.hid (want_back HS.out hno hcs)
  have HE : Hid (mayE ([] : List Int) = true) := rfl
  have HOP := Lib.hid (open_ok (op := op) HS.out HE.out)
  have HPE := Lib.hid (push_ok (open_sane (op := op) HS.out HE.out) (mayE_any HE.out))
  have HCB := Lib.hid (close_back (op := op) HS.out HE.out)
  simp only at HPE
  have q1 : nm = 0 := by rw [← hnm, hmm]; rfl
  subst q1
  clear h hu hn hnm hf hs hm20 hpush hno hcs hmm hcap
  have HOp := Lib.hid hop
  clear hop
  go_enter Try.func5, Try.ntmps5
  go_wp2_with fail
  refine HA.out.mono ?_
  rintro e w1 ⟨rfl, hb⟩
  have HB1 := Lib.hid hb
  have HH1 := Lib.hid (HH.out.keep hb)
  have HU1 := Lib.hid (HU.out.keep hb)
  clear hb HA
  go_wp2_with fail
  have HFW := Lib.hid (few_any HH1.out)
  rw [HF.out] at HFW
  refine HFW.out.mono ?_
  rintro e w2 ⟨rfl, rfl⟩
  have HG := Lib.hid (grown_any HH1.out HF.out)
  rw [HG0.out] at HG
  clear HFW HG0
  go_wp2_with fail
  refine HG.out.mono ?_
  rintro e w3 hen
  obtain ⟨P, np, cp, Q, m, d, rfl, hv, hb⟩ := hen.at_
  have HB3 := Lib.hid (HB1.out.trans (hb.mono HB1.out.size))
  have HB4 := Lib.hid (HB3.out.trans ((below_new w3 (.cells #[.slice P np cp, .slice Q m d] 30)).mono HB3.out.size))
  have HV := Lib.hid (hv.keep (below_new w3 (.cells #[.slice P np cp, .slice Q m d] 30)))
  have HU4 := Lib.hid (HU1.out.keep (hb.trans ((below_new w3 (.cells #[.slice P np cp, .slice Q m d] 30)).mono hb.size)))
  have HX := Lib.hid (heap_new w3 (.cells #[.slice P np cp, .slice Q m d] 30))
  clear hen hv hb HG
  go_wp2_with fail
  generalize w3.alloc (.cells #[.slice P np cp, .slice Q m d] 30) = w4 at *
  obtain ⟨x, hx⟩ : ∃ x, w3.heap.size = x := ⟨_, rfl⟩
  rw [hx] at HX
  simp only [hx]
  clear hx
  obtain ⟨lc, hrb, hrc, hml, hnv, hnl, hnc⟩ := HV.out.rows
  have HNV := Lib.hid hnv
  have HNC := Lib.hid hnc
  clear hrb hrc hml hnv hnl hnc
  have HK := Lib.hid (Push_st HV.out HU4.out (by have := HLE.out.1; omega) (by have := HLE.out.2; omega) HM20.out)
  rw [HP.out] at HK
  have hm1 : 0 < m := by
    rw [← HNC.out]
    exact List.length_pos_iff.2 HCS.out
  have t2 : decide ((0 : Int) < (m : Int)) = true := decide_eq_true (by omega)
  have t2' : decide (0 < m) = true := decide_eq_true hm1
  refine HK.out.mono ?_
  rintro e w5 hen
  obtain ⟨P5, n5, c5, Q5, m5, d5, rfl, hv, hb⟩ := hen.of
  have HK5 := Lib.hid (hb.trans ((below_new w5 (.cells #[.slice P5 n5 c5, .slice Q5 m5 d5] 30)).mono hb.size))
  have HB6 := Lib.hid (HB4.out.trans (HK5.out.mono HB4.out.size))
  have HV5 := Lib.hid (hv.keep (below_new w5 (.cells #[.slice P5 n5 c5, .slice Q5 m5 d5] 30)))
  have HVs := Lib.hid (HV.out.keep HK5.out)
  have HU6 := Lib.hid (HU4.out.keep HK5.out)
  have HX6 := Lib.hid (blk HX.out HK5.out)
  have HX6' := Lib.hid (blk HX.out hb)
  obtain ⟨x0, x1⟩ := cells2 HX6'.out
  have hxl : x < w5.heap.size := lt_of_heap HX6'.out
  clear hen hv HK
  clear hb
  go_wp2_with fail
  clear x0 x1 hxl HX6'
  generalize w5.alloc (.cells #[.slice P5 n5 c5, .slice Q5 m5 d5] 30) = w6 at *
  have HWa := Lib.hid (Want_st HV5.out HU6.out (by show (s.vals ++ mm).length ≤ _; rw [List.length_append]; have := HLE.out.1; have := HNM.out; have := HN2.out; omega) (by have := HLE.out.2; show s.cs.length ≤ _; omega) HM20.out)
  rw [HWN.out] at HWa
  refine HWa.out.mono ?_
  rintro e w7 hen
  obtain ⟨P7, n7, c7, Q7, m7, d7, rfl, hv, hb⟩ := hen.of
  have HK7 := Lib.hid (hb.trans ((below_new w7 (.cells #[.slice P7 n7 c7, .slice Q7 m7 d7] 30)).mono hb.size))
  have HB8 := Lib.hid (HB6.out.trans (HK7.out.mono HB6.out.size))
  have HV8 := Lib.hid (hv.keep (below_new w7 (.cells #[.slice P7 n7 c7, .slice Q7 m7 d7] 30)))
  have HVs8 := Lib.hid (HVs.out.keep HK7.out)
  have HU8 := Lib.hid (HU6.out.keep HK7.out)
  have HX8 := Lib.hid (blk HX6.out HK7.out)
  have HZ8 := Lib.hid (heap_new w7 (.cells #[.slice P7 n7 c7, .slice Q7 m7 d7] 30))
  clear hen hv hb HWa
  go_wp2_with fail
  generalize w7.alloc (.cells #[.slice P7 n7 c7, .slice Q7 m7 d7] 30) = w8 at *
  obtain ⟨z, hz⟩ : ∃ z, w7.heap.size = z := ⟨_, rfl⟩
  rw [hz] at HZ8
  simp only [hz]
  clear hz
  refine Stab.region 144 [.is (.int .i64 0), .is (.bool false), .is (.bool false), .is (.agg #[.slice P7 n7 c7, .slice Q7 m7 d7]), .fits (fun v W => StIs elD W v s), .is (.agg #[.slice P np cp, .slice Q m d]), .fits (fun v W => StIs elD W v s), .is (.bool true), .is (.bool false), .is (.bool false)] (by kernel_rfl) (by kernel_rfl) rfl rfl ?_ ?_
  · with_reducible refine Stab.steps_cons ?_ ?_ ?_
    · exact Stab.owes_move rfl rfl rfl
    · exact trivial
    with_reducible refine Stab.steps_cons ?_ ?_ ?_
    · exact Stab.owes_bin rfl rfl rfl (fun W => Stab.run_neE _ _ 0 0 false rfl W) rfl
    · exact trivial
    with_reducible refine Stab.steps_cons ?_ ?_ ?_
    · exact Stab.owes_move rfl rfl rfl
    · exact trivial
    with_reducible refine Stab.steps_cons ?_ ?_ ?_
    · exact Stab.owes_load rfl (fun v W hb hv => by subst hv; exact ld_stk (blk HZ8.out hb)) rfl
    · exact trivial
    with_reducible refine Stab.steps_cons ?_ ?_ ?_
    · (refine Stab.owes_call Try.func17 (by kernel_rfl) (by kernel_rfl) rfl (fun vs W hb hall => ?_) rfl; obtain ⟨_, _, rfl, rfl, rfl⟩ := hall; refine (theirs_any (HV8.out.keep hb) HCL.out).mono ?_; rintro e w2 ⟨⟨P', n', c', Q', m', d', rfl, hv⟩, hb2⟩; exact ⟨_, rfl, hb2, hv⟩)
    · exact fun v w w' h hb => StIs.keep h hb
    with_reducible refine Stab.steps_cons ?_ ?_ ?_
    · exact Stab.owes_load rfl (fun v W hb hv => by subst hv; exact ld_stk (blk HX8.out hb)) rfl
    · exact trivial
    with_reducible refine Stab.steps_cons ?_ ?_ ?_
    · (refine Stab.owes_call Try.func17 (by kernel_rfl) (by kernel_rfl) rfl (fun vs W hb hall => ?_) rfl; obtain ⟨_, _, rfl, rfl, rfl⟩ := hall; refine (theirs_any (HVs8.out.keep hb) HCL.out).mono ?_; rintro e w2 ⟨⟨P', n', c', Q', m', d', rfl, hv⟩, hb2⟩; exact ⟨_, rfl, hb2, hv⟩)
    · exact fun v w w' h hb => StIs.keep h hb
    with_reducible refine Stab.steps_cons ?_ ?_ ?_
    · (refine Stab.owes_call Try.func16 (by kernel_rfl) (by kernel_rfl) rfl (fun vs W hb hall => ?_) rfl; obtain ⟨v1, _, rfl, h1, v2, _, rfl, h2, rfl⟩ := hall; have h1 : StIs elD W v1 s := h1; have h2 : StIs elD W v2 s := h2; refine (same_yes h1 h2 (by have := HCL.out; omega)).mono ?_; rintro e w2 ⟨rfl, hb2⟩; exact ⟨_, rfl, hb2, rfl⟩)
    · exact trivial
    with_reducible refine Stab.steps_cons ?_ ?_ ?_
    · exact Stab.owes_not rfl rfl (fun W => Stab.run_not true W) rfl
    · exact trivial
    with_reducible refine Stab.steps_cons ?_ ?_ ?_
    · exact Stab.owes_pick rfl rfl rfl rfl
    · exact trivial
    exact Stab.steps_nil
  · intro y1 y2 w9 hb9 _
    have HB9 := Lib.hid (HB8.out.trans (hb9.mono HB8.out.size))
    have HVs9 := Lib.hid (HVs8.out.keep hb9)
    have HX9 := Lib.hid (blk HX8.out hb9)
    have HU9 := Lib.hid (HU8.out.keep hb9)
    clear hb9
    obtain ⟨x0, x1⟩ := cells2 HX9.out
    have hxl : x < w9.heap.size := lt_of_heap HX9.out
    simp only [Act.put, List.setIfInBounds_toArray, List.set_cons_succ, List.set_cons_zero]
    go_wp2_with fail
    clear x0 x1 hxl
    have HK10 := Lib.hid (below_new w9 (.cells #[] 5))
    have HB10 := Lib.hid (HB9.out.trans (HK10.out.mono HB9.out.size))
    have HVs10 := Lib.hid (HVs9.out.keep HK10.out)
    have HX10 := Lib.hid (blk HX9.out HK10.out)
    have HE10 := Lib.hid (row_nil_new w9)
    skip
    have HU10 := Lib.hid (HU9.out.keep HK10.out)
    generalize w9.alloc (.cells #[] 5) = w10 at *
    obtain ⟨pf, hpf⟩ : ∃ q, w9.heap.size = q := ⟨_, rfl⟩
    rw [hpf] at HE10
    simp only [hpf]
    clear hpf
    have HQ := Lib.hid (Open_st (op := op) HVs10.out HE10.out HOp.out (by have := HLE.out.1; omega) (by have := HLE.out.2; omega) (by simp))
    rw [HOP.out] at HQ
    refine HQ.out.mono ?_
    rintro e w11 hen
    obtain ⟨Pc, nc, cc, Qc, mc, dc, rfl, hv, hb⟩ := hen.of
    have HK12 := Lib.hid (hb.trans ((below_new w11 (.cells #[.slice Pc nc cc, .slice Qc mc dc] 30)).mono hb.size))
    have HB12 := Lib.hid (HB10.out.trans (HK12.out.mono HB10.out.size))
    have HV12 := Lib.hid (hv.keep (below_new w11 (.cells #[.slice Pc nc cc, .slice Qc mc dc] 30)))
    have HVs12 := Lib.hid (HVs10.out.keep HK12.out)
    have HX12 := Lib.hid (blk HX10.out HK12.out)
    have HE12 := Lib.hid (HE10.out.keep HK12.out)
    clear hen hv hb HQ
    go_wp2_with fail
    generalize w11.alloc (.cells #[.slice Pc nc cc, .slice Qc mc dc] 30) = w12 at *
    have HR := Lib.hid (Push_st HV12.out HE12.out (by have := HLE.out.1; show s.vals.length ≤ _; omega) (by have := HLE.out.2; show (s.cs ++ [_]).length ≤ _; rw [List.length_append, List.length_singleton]; omega) (by simp))
    rw [HPE.out] at HR
    refine HR.out.mono ?_
    rintro e w13 hen
    obtain ⟨Pd, nd, cd, Qd, md, dd, rfl, hv, hb⟩ := hen.of
    have HK14 := Lib.hid (hb.trans ((below_new w13 (.cells #[.slice Pd nd cd, .slice Qd md dd] 30)).mono hb.size))
    have HB14 := Lib.hid (HB12.out.trans (HK14.out.mono HB12.out.size))
    have HV14 := Lib.hid (hv.keep (below_new w13 (.cells #[.slice Pd nd cd, .slice Qd md dd] 30)))
    have HVs14 := Lib.hid (HVs12.out.keep HK14.out)
    have HX14 := Lib.hid (blk HX12.out HK14.out)
    have HE14 := Lib.hid (HE12.out.keep HK14.out)
    clear hen hv hb HR
    go_wp2_with fail
    generalize w13.alloc (.cells #[.slice Pd nd cd, .slice Qd md dd] 30) = w14 at *
    have HT := Lib.hid (Close_st HV14.out (by have := HLE.out.1; show (s.vals ++ _).length ≤ _; rw [List.length_append]; simp; omega) (by have := HLE.out.2; show (s.cs ++ [_]).length ≤ _; rw [List.length_append, List.length_singleton]; omega))
    rw [HCB.out] at HT
    refine HT.out.mono ?_
    rintro e w15 hen
    obtain ⟨Px, nx, cx, Qx, mx, dx, Pk, nk, ck, rfl, hv, hre, hb⟩ := hen.of
    simp only at hre
    simp only [HNV.out]
    have HKb := Lib.hid (below2 w15 (.cells #[.slice Px nx cx, .slice Qx mx dx] 30) (.cells #[.int .i64 op, .slice Pk nk ck, .int .i64 (np : Int), .bool false] 46))
    have HK16 := Lib.hid (hb.trans (HKb.out.mono hb.size))
    have HB16 := Lib.hid (HB14.out.trans (HK16.out.mono HB14.out.size))
    have HVs16 := Lib.hid (HVs14.out.keep HK16.out)
    have HV16 := Lib.hid (hv.keep HKb.out)
    have HX16 := Lib.hid (blk HX14.out HK16.out)
    have HE16 := Lib.hid (HE14.out.keep HK16.out)
    have HRE := Lib.hid (hre.keep HKb.out)
    have HP16 := Lib.hid (blk (heap_new w15 (.cells #[.slice Px nx cx, .slice Qx mx dx] 30)) (below_new (w15.alloc (.cells #[.slice Px nx cx, .slice Qx mx dx] 30)) (.cells #[.int .i64 op, .slice Pk nk ck, .int .i64 (np : Int), .bool false] 46)))
    have HR16 := Lib.hid (heap_new (w15.alloc (.cells #[.slice Px nx cx, .slice Qx mx dx] 30)) (.cells #[.int .i64 op, .slice Pk nk ck, .int .i64 (np : Int), .bool false] 46))
    simp only [size_new] at HR16
    clear hen hv hb hre HT
    go_wp2_with fail
    generalize (w15.alloc (.cells #[.slice Px nx cx, .slice Qx mx dx] 30)).alloc (.cells #[.int .i64 op, .slice Pk nk ck, .int .i64 (np : Int), .bool false] 46) = w16 at *
    obtain ⟨o1, ho1⟩ : ∃ o, w15.heap.size = o := ⟨_, rfl⟩
    obtain ⟨o2, ho2⟩ : ∃ o, o1 + 1 = o := ⟨_, rfl⟩
    rw [ho1] at HP16 HR16
    rw [ho2] at HR16
    simp only [ho1, ho2]
    clear ho1 ho2
    have HS1 := Lib.hid (fun W (hW : Below w16.heap.size w16 W) => run_txt (HE16.out.keep hW))
    have HS2 := Lib.hid (fun W (hW : Below w16.heap.size w16 W) => run_txt (HRE.out.keep hW))
    generalize strOfNums ([] : List Int) = S1 at HS1 HS2
    refine Stab.region 144 [.is (.bool true), .is (.bool true), .is (.int .i64 0), .is (.bool true), .is (.bool true), .is (.bool true), .is (.int .i64 0), .is (.bool true), .is (.bool true), .is (.bool true), .is (.int .i64 0), .is (.bool true), .is (.bool true), .is (.bool true), .is (.pointer (some ⟨o2, 0, none⟩)), .is (.int .i64 op), .is (.int .i64 op), .is (.bool true), .is (.bool true), .is (.bool true), .is (.pointer (some ⟨o2, 1, none⟩)), .is (.slice Pk nk ck), .is (.string S1), .is (.slice (some ⟨pf, 0, none⟩) 0 0), .is (.string S1), .is (.bool true), .is (.bool true), .is (.bool true), .is (.pointer (some ⟨o2, 3, none⟩)), .is (.bool false), .is (.bool true), .is (.bool true), .is (.bool true), .is (.pointer (some ⟨o2, 2, none⟩)), .is (.int .i64 (np : Int)), .is (.pointer (some ⟨x, 0, none⟩)), .is (.slice P np cp), .is (.int .i64 (np : Int)), .is (.bool true), .is (.bool true), .is (.bool true), .is (.agg #[.slice Px nx cx, .slice Qx mx dx]), .fits (fun v W => StIs elD W v s), .is (.agg #[.slice P np cp, .slice Q m d]), .fits (fun v W => StIs elD W v s), .is (.bool true), .is (.bool true), .is (.bool true)] (by kernel_rfl) (by kernel_rfl) rfl rfl ?_ ?_
    · with_reducible refine Stab.steps_cons ?_ ?_ ?_
      · exact Stab.owes_move rfl rfl rfl
      · exact trivial
      with_reducible refine Stab.steps_cons ?_ ?_ ?_
      · exact Stab.owes_move rfl rfl rfl
      · exact trivial
      with_reducible refine Stab.steps_cons ?_ ?_ ?_
      · exact Stab.owes_move rfl rfl rfl
      · exact trivial
      with_reducible refine Stab.steps_cons ?_ ?_ ?_
      · exact Stab.owes_bin rfl rfl rfl (fun W => Stab.run_eqE _ _ 0 0 true rfl W) rfl
      · exact trivial
      with_reducible refine Stab.steps_cons ?_ ?_ ?_
      · exact Stab.owes_pick rfl rfl rfl rfl
      · exact trivial
      with_reducible refine Stab.steps_cons ?_ ?_ ?_
      · exact Stab.owes_move rfl rfl rfl
      · exact trivial
      with_reducible refine Stab.steps_cons ?_ ?_ ?_
      · exact Stab.owes_move rfl rfl rfl
      · exact trivial
      with_reducible refine Stab.steps_cons ?_ ?_ ?_
      · exact Stab.owes_bin rfl rfl rfl (fun W => Stab.run_eqE _ _ 0 0 true rfl W) rfl
      · exact trivial
      with_reducible refine Stab.steps_cons ?_ ?_ ?_
      · exact Stab.owes_pick rfl rfl rfl rfl
      · exact trivial
      with_reducible refine Stab.steps_cons ?_ ?_ ?_
      · exact Stab.owes_move rfl rfl rfl
      · exact trivial
      with_reducible refine Stab.steps_cons ?_ ?_ ?_
      · exact Stab.owes_move rfl rfl rfl
      · exact trivial
      with_reducible refine Stab.steps_cons ?_ ?_ ?_
      · exact Stab.owes_bin rfl rfl rfl (fun W => Stab.run_eqE _ _ 0 0 true rfl W) rfl
      · exact trivial
      with_reducible refine Stab.steps_cons ?_ ?_ ?_
      · exact Stab.owes_pick rfl rfl rfl rfl
      · exact trivial
      with_reducible refine Stab.steps_cons ?_ ?_ ?_
      · exact Stab.owes_move rfl rfl rfl
      · exact trivial
      with_reducible refine Stab.steps_cons ?_ ?_ ?_
      · exact Stab.owes_fieldAt rfl rfl (fun W => Stab.run_fC0 _ W) rfl
      · exact trivial
      with_reducible refine Stab.steps_cons ?_ ?_ ?_
      · exact Stab.owes_load rfl (fun v W hb hv => by subst hv; exact Stab.run_cellI _ _ _ W (cells4 (blk HR16.out hb)).1) rfl
      · exact trivial
      with_reducible refine Stab.steps_cons ?_ ?_ ?_
      · exact Stab.owes_move rfl rfl rfl
      · exact trivial
      with_reducible refine Stab.steps_cons ?_ ?_ ?_
      · exact Stab.owes_bin rfl rfl rfl (fun W => Stab.run_eqI _ _ op op true (by simp) W) rfl
      · exact trivial
      with_reducible refine Stab.steps_cons ?_ ?_ ?_
      · exact Stab.owes_pick rfl rfl rfl rfl
      · exact trivial
      with_reducible refine Stab.steps_cons ?_ ?_ ?_
      · exact Stab.owes_move rfl rfl rfl
      · exact trivial
      with_reducible refine Stab.steps_cons ?_ ?_ ?_
      · exact Stab.owes_fieldAt rfl rfl (fun W => Stab.run_fC1 _ W) rfl
      · exact trivial
      with_reducible refine Stab.steps_cons ?_ ?_ ?_
      · exact Stab.owes_load rfl (fun v W hb hv => by subst hv; exact Stab.run_cellS _ _ _ _ _ W (cells4 (blk HR16.out hb)).2.1) rfl
      · exact trivial
      with_reducible refine Stab.steps_cons ?_ ?_ ?_
      · exact Stab.owes_convert rfl (fun v W hb hv => by subst hv; exact HS2.out W hb) rfl
      · exact trivial
      with_reducible refine Stab.steps_cons ?_ ?_ ?_
      · exact Stab.owes_move rfl rfl rfl
      · exact trivial
      with_reducible refine Stab.steps_cons ?_ ?_ ?_
      · exact Stab.owes_convert rfl (fun v W hb hv => by subst hv; exact HS1.out W hb) rfl
      · exact trivial
      with_reducible refine Stab.steps_cons ?_ ?_ ?_
      · exact Stab.owes_bin rfl rfl rfl (fun W => Stab.run_eqS _ _ S1 S1 true (by simp) W) rfl
      · exact trivial
      with_reducible refine Stab.steps_cons ?_ ?_ ?_
      · exact Stab.owes_pick rfl rfl rfl rfl
      · exact trivial
      with_reducible refine Stab.steps_cons ?_ ?_ ?_
      · exact Stab.owes_move rfl rfl rfl
      · exact trivial
      with_reducible refine Stab.steps_cons ?_ ?_ ?_
      · exact Stab.owes_fieldAt rfl rfl (fun W => Stab.run_fC3 _ W) rfl
      · exact trivial
      with_reducible refine Stab.steps_cons ?_ ?_ ?_
      · exact Stab.owes_load rfl (fun v W hb hv => by subst hv; exact Stab.run_cellT _ _ _ W (cells4 (blk HR16.out hb)).2.2.2) rfl
      · exact trivial
      with_reducible refine Stab.steps_cons ?_ ?_ ?_
      · exact Stab.owes_not rfl rfl (fun W => Stab.run_not false W) rfl
      · exact trivial
      with_reducible refine Stab.steps_cons ?_ ?_ ?_
      · exact Stab.owes_pick rfl rfl rfl rfl
      · exact trivial
      with_reducible refine Stab.steps_cons ?_ ?_ ?_
      · exact Stab.owes_move rfl rfl rfl
      · exact trivial
      with_reducible refine Stab.steps_cons ?_ ?_ ?_
      · exact Stab.owes_fieldAt rfl rfl (fun W => Stab.run_fC2 _ W) rfl
      · exact trivial
      with_reducible refine Stab.steps_cons ?_ ?_ ?_
      · exact Stab.owes_load rfl (fun v W hb hv => by subst hv; exact Stab.run_cellI _ _ _ W (cells4 (blk HR16.out hb)).2.2.1) rfl
      · exact trivial
      with_reducible refine Stab.steps_cons ?_ ?_ ?_
      · exact Stab.owes_fieldAt rfl rfl (fun W => Stab.run_fS0 _ W) rfl
      · exact trivial
      with_reducible refine Stab.steps_cons ?_ ?_ ?_
      · exact Stab.owes_load rfl (fun v W hb hv => by subst hv; exact Stab.run_cellS _ _ _ _ _ W (cells2 (blk HX16.out hb)).1) rfl
      · exact trivial
      with_reducible refine Stab.steps_cons ?_ ?_ ?_
      · exact Stab.owes_length rfl rfl (fun W => Stab.run_lenB _ _ _ _ W) rfl
      · exact trivial
      with_reducible refine Stab.steps_cons ?_ ?_ ?_
      · exact Stab.owes_bin rfl rfl rfl (fun W => Stab.run_eqI _ _ (np : Int) (np : Int) true (by simp) W) rfl
      · exact trivial
      with_reducible refine Stab.steps_cons ?_ ?_ ?_
      · exact Stab.owes_pick rfl rfl rfl rfl
      · exact trivial
      with_reducible refine Stab.steps_cons ?_ ?_ ?_
      · exact Stab.owes_move rfl rfl rfl
      · exact trivial
      with_reducible refine Stab.steps_cons ?_ ?_ ?_
      · exact Stab.owes_load rfl (fun v W hb hv => by subst hv; exact ld_stk (blk HP16.out hb)) rfl
      · exact trivial
      with_reducible refine Stab.steps_cons ?_ ?_ ?_
      · (refine Stab.owes_call Try.func17 (by kernel_rfl) (by kernel_rfl) rfl (fun vs W hb hall => ?_) rfl; obtain ⟨_, _, rfl, rfl, rfl⟩ := hall; refine (theirs_any (HV16.out.keep hb) HCL.out).mono ?_; rintro e w2 ⟨⟨P', n', c', Q', m', d', rfl, hv⟩, hb2⟩; exact ⟨_, rfl, hb2, hv⟩)
      · exact fun v w w' h hb => StIs.keep h hb
      with_reducible refine Stab.steps_cons ?_ ?_ ?_
      · exact Stab.owes_load rfl (fun v W hb hv => by subst hv; exact ld_stk (blk HX16.out hb)) rfl
      · exact trivial
      with_reducible refine Stab.steps_cons ?_ ?_ ?_
      · (refine Stab.owes_call Try.func17 (by kernel_rfl) (by kernel_rfl) rfl (fun vs W hb hall => ?_) rfl; obtain ⟨_, _, rfl, rfl, rfl⟩ := hall; refine (theirs_any (HVs16.out.keep hb) HCL.out).mono ?_; rintro e w2 ⟨⟨P', n', c', Q', m', d', rfl, hv⟩, hb2⟩; exact ⟨_, rfl, hb2, hv⟩)
      · exact fun v w w' h hb => StIs.keep h hb
      with_reducible refine Stab.steps_cons ?_ ?_ ?_
      · (refine Stab.owes_call Try.func16 (by kernel_rfl) (by kernel_rfl) rfl (fun vs W hb hall => ?_) rfl; obtain ⟨v1, _, rfl, h1, v2, _, rfl, h2, rfl⟩ := hall; have h1 : StIs elD W v1 s := h1; have h2 : StIs elD W v2 s := h2; refine (same_yes h1 h2 (by have := HCL.out; omega)).mono ?_; rintro e w2 ⟨rfl, hb2⟩; exact ⟨_, rfl, hb2, rfl⟩)
      · exact trivial
      with_reducible refine Stab.steps_cons ?_ ?_ ?_
      · exact Stab.owes_pick rfl rfl rfl rfl
      · exact trivial
      with_reducible refine Stab.steps_cons ?_ ?_ ?_
      · exact Stab.owes_assign rfl rfl rfl
      · exact trivial
      exact Stab.steps_nil
    · intro y3 y4 w17 hb17 _
      simp only [Act.put, List.setIfInBounds_toArray, List.set_cons_succ, List.set_cons_zero]
      go_wp2_with fail
      exact bodyPost_ret (v := .bool true) (by simp [results, Try.results5, go_sem]) rfl ⟨rfl, HB16.out.trans (hb17.mono HB16.out.size)⟩
theorem back_yes_zero {v u : Value} {l : List ActV} {r : List Int} {w : World} (h : Row elA w v l) (hu : Row elB w u (0 :: r)) {op : Int} (hop : w64 op) (hf : fewL (l.map (·.1)) = true) (hm20 : ¬ 20 < ((0 :: r) : List Int).length) (hno : ((0 :: r) : List Int).any noT = false) (hcs : (grow (l.map (·.1))).cs ≠ []) : Calls Try.prog 5 #[v, u, .int .i64 op] w (Yes w) := by
  have HH := Lib.hid h
  have HU := Lib.hid hu
  have HA := Lib.hid (awake_any w)
  obtain ⟨A, c, rfl, _⟩ := h.form
  obtain ⟨Pm, cm, rfl, hcap, _⟩ := hu.form
  obtain ⟨n, hn⟩ : ∃ n, l.length = n := ⟨_, rfl⟩
  obtain ⟨mm, hmm⟩ : ∃ mm : List Int, mm = (0 :: r) := ⟨_, rfl⟩
  rw [← hmm] at HU hm20 hno ⊢
  have HMM := Lib.hid hmm
  obtain ⟨nm, hnm⟩ : ∃ n, mm.length = n := ⟨_, rfl⟩
  rw [hn] at HH ⊢
  rw [hnm] at HU hm20 ⊢
  have HNM := Lib.hid hnm
  have HNO := Lib.hid hno
  have t1 : decide ((20 : Int) < (nm : Int)) = false := decide_eq_false (by omega)
  have t1' : decide (20 < nm) = false := decide_eq_false hm20
  have HN2 : Hid (nm ≤ 20) := (by omega : nm ≤ 20)
  have HM20 : Hid (mm.length ≤ 400000) := by show _ ≤ _; rw [HNM.out]; omega
  have HS := Lib.hid (grow_sane (l.map (·.1)))
  have HLE := Lib.hid (grow_le hf)
  have HF := Lib.hid hf
  obtain ⟨s, hs⟩ : ∃ s, grow (l.map (·.1)) = s := ⟨_, rfl⟩
  have HG0 := Lib.hid hs
  rw [hs] at HS HLE hcs
  have HCS := Lib.hid hcs
  have HCL : Hid (s.cs.length ≤ 400000) := by have := HLE.out.2; exact (by omega : s.cs.length ≤ 400000)
  have hpush := push_ok HS.out hno
  have HP := Lib.hid hpush
  have HWN := Lib.hid (want_back HS.out hno hcs)
  have HE : Hid (mayE ([] : List Int) = true) := rfl
  have HOP := Lib.hid (open_ok (op := op) HS.out HE.out)
  have HPE := Lib.hid (push_ok (open_sane (op := op) HS.out HE.out) (mayE_any HE.out))
  have HCB := Lib.hid (close_back (op := op) HS.out HE.out)
  simp only at HPE
  have q1 : decide ((0 : Int) < (nm : Int)) = true := decide_eq_true (by rw [← hnm, hmm]; simp)
  have q1' : decide (0 < nm) = true := decide_eq_true (by rw [← hnm, hmm]; simp)
  obtain ⟨gm, om, hPm, _, _⟩ := byte_at HU.out (j := 0) (by rw [hmm]; simp)
  subst hPm
  have q0 : 0 < nm := of_decide_eq_true q1'
  clear h hu hn hnm hf hs hm20 hpush hno hcs hmm hcap
  have HOp := Lib.hid hop
  clear hop
  go_enter Try.func5, Try.ntmps5
  go_wp2_with fail
  refine HA.out.mono ?_
  rintro e w1 ⟨rfl, hb⟩
  have HB1 := Lib.hid hb
  have HH1 := Lib.hid (HH.out.keep hb)
  have HU1 := Lib.hid (HU.out.keep hb)
  clear hb HA
  go_wp2_with fail
  have HFW := Lib.hid (few_any HH1.out)
  rw [HF.out] at HFW
  refine HFW.out.mono ?_
  rintro e w2 ⟨rfl, rfl⟩
  have HG := Lib.hid (grown_any HH1.out HF.out)
  rw [HG0.out] at HG
  clear HFW HG0
  go_wp2_with fail
  refine HG.out.mono ?_
  rintro e w3 hen
  obtain ⟨P, np, cp, Q, m, d, rfl, hv, hb⟩ := hen.at_
  have HB3 := Lib.hid (HB1.out.trans (hb.mono HB1.out.size))
  have HB4 := Lib.hid (HB3.out.trans ((below_new w3 (.cells #[.slice P np cp, .slice Q m d] 30)).mono HB3.out.size))
  have HV := Lib.hid (hv.keep (below_new w3 (.cells #[.slice P np cp, .slice Q m d] 30)))
  have HU4 := Lib.hid (HU1.out.keep (hb.trans ((below_new w3 (.cells #[.slice P np cp, .slice Q m d] 30)).mono hb.size)))
  have HX := Lib.hid (heap_new w3 (.cells #[.slice P np cp, .slice Q m d] 30))
  clear hen hv hb HG
  go_wp2_with fail
  generalize w3.alloc (.cells #[.slice P np cp, .slice Q m d] 30) = w4 at *
  obtain ⟨x, hx⟩ : ∃ x, w3.heap.size = x := ⟨_, rfl⟩
  rw [hx] at HX
  simp only [hx]
  clear hx
  obtain ⟨lc, hrb, hrc, hml, hnv, hnl, hnc⟩ := HV.out.rows
  have HNV := Lib.hid hnv
  have HNC := Lib.hid hnc
  clear hrb hrc hml hnv hnl hnc
  have HK := Lib.hid (Push_st HV.out HU4.out (by have := HLE.out.1; omega) (by have := HLE.out.2; omega) HM20.out)
  rw [HP.out] at HK
  have hm1 : 0 < m := by
    rw [← HNC.out]
    exact List.length_pos_iff.2 HCS.out
  have t2 : decide ((0 : Int) < (m : Int)) = true := decide_eq_true (by omega)
  have t2' : decide (0 < m) = true := decide_eq_true hm1
  refine HK.out.mono ?_
  rintro e w5 hen
  obtain ⟨P5, n5, c5, Q5, m5, d5, rfl, hv, hb⟩ := hen.of
  have HK5 := Lib.hid (hb.trans ((below_new w5 (.cells #[.slice P5 n5 c5, .slice Q5 m5 d5] 30)).mono hb.size))
  have HB6 := Lib.hid (HB4.out.trans (HK5.out.mono HB4.out.size))
  have HV5 := Lib.hid (hv.keep (below_new w5 (.cells #[.slice P5 n5 c5, .slice Q5 m5 d5] 30)))
  have HVs := Lib.hid (HV.out.keep HK5.out)
  have HU6 := Lib.hid (HU4.out.keep HK5.out)
  have HX6 := Lib.hid (blk HX.out HK5.out)
  have HX6' := Lib.hid (blk HX.out hb)
  obtain ⟨x0, x1⟩ := cells2 HX6'.out
  have hxl : x < w5.heap.size := lt_of_heap HX6'.out
  clear hen hv HK
  obtain ⟨gm', om', hPm, hgm, hcm, _, _⟩ := byte_at HU6.out (j := 0) (by rw [HNM.out]; exact q0)
  simp only [Option.some.injEq, Addr.mk.injEq, and_true] at hPm
  obtain ⟨rfl, rfl⟩ := hPm
  rw [show mm.getD 0 0 = 0 from by rw [HMM.out]; rfl] at hcm
  have HCM := Lib.hid hcm
  have HGM := Lib.hid hgm
  simp only [Nat.add_zero] at hcm HCM
  clear hcm hgm
  clear hb
  go_wp2_with fail
  clear x0 x1 hxl HX6'
  generalize w5.alloc (.cells #[.slice P5 n5 c5, .slice Q5 m5 d5] 30) = w6 at *
  have HWa := Lib.hid (Want_st HV5.out HU6.out (by show (s.vals ++ mm).length ≤ _; rw [List.length_append]; have := HLE.out.1; have := HNM.out; have := HN2.out; omega) (by have := HLE.out.2; show s.cs.length ≤ _; omega) HM20.out)
  rw [HWN.out] at HWa
  refine HWa.out.mono ?_
  rintro e w7 hen
  obtain ⟨P7, n7, c7, Q7, m7, d7, rfl, hv, hb⟩ := hen.of
  have HK7 := Lib.hid (hb.trans ((below_new w7 (.cells #[.slice P7 n7 c7, .slice Q7 m7 d7] 30)).mono hb.size))
  have HB8 := Lib.hid (HB6.out.trans (HK7.out.mono HB6.out.size))
  have HV8 := Lib.hid (hv.keep (below_new w7 (.cells #[.slice P7 n7 c7, .slice Q7 m7 d7] 30)))
  have HVs8 := Lib.hid (HVs.out.keep HK7.out)
  have HU8 := Lib.hid (HU6.out.keep HK7.out)
  have HX8 := Lib.hid (blk HX6.out HK7.out)
  have HZ8 := Lib.hid (heap_new w7 (.cells #[.slice P7 n7 c7, .slice Q7 m7 d7] 30))
  clear hen hv hb HWa
  go_wp2_with fail
  generalize w7.alloc (.cells #[.slice P7 n7 c7, .slice Q7 m7 d7] 30) = w8 at *
  obtain ⟨z, hz⟩ : ∃ z, w7.heap.size = z := ⟨_, rfl⟩
  rw [hz] at HZ8
  simp only [hz]
  clear hz
  have HCM8 := Lib.hid ((HK7.out.cell (p := ⟨gm, om, none⟩) HGM.out).trans HCM.out)
  have HGM8 : Hid (gm < w8.heap.size) := Nat.lt_of_lt_of_le HGM.out HK7.out.size
  refine Stab.region 144 [.is (.int .i64 0), .is (.bool false), .is (.bool false), .is (.agg #[.slice P7 n7 c7, .slice Q7 m7 d7]), .fits (fun v W => StIs elD W v s), .is (.agg #[.slice P np cp, .slice Q m d]), .fits (fun v W => StIs elD W v s), .is (.bool true), .is (.bool false), .is (.bool false)] (by kernel_rfl) (by kernel_rfl) rfl rfl ?_ ?_
  · with_reducible refine Stab.steps_cons ?_ ?_ ?_
    · exact Stab.owes_move rfl rfl rfl
    · exact trivial
    with_reducible refine Stab.steps_cons ?_ ?_ ?_
    · exact Stab.owes_bin rfl rfl rfl (fun W => Stab.run_neE _ _ 0 0 false rfl W) rfl
    · exact trivial
    with_reducible refine Stab.steps_cons ?_ ?_ ?_
    · exact Stab.owes_move rfl rfl rfl
    · exact trivial
    with_reducible refine Stab.steps_cons ?_ ?_ ?_
    · exact Stab.owes_load rfl (fun v W hb hv => by subst hv; exact ld_stk (blk HZ8.out hb)) rfl
    · exact trivial
    with_reducible refine Stab.steps_cons ?_ ?_ ?_
    · (refine Stab.owes_call Try.func17 (by kernel_rfl) (by kernel_rfl) rfl (fun vs W hb hall => ?_) rfl; obtain ⟨_, _, rfl, rfl, rfl⟩ := hall; refine (theirs_any (HV8.out.keep hb) HCL.out).mono ?_; rintro e w2 ⟨⟨P', n', c', Q', m', d', rfl, hv⟩, hb2⟩; exact ⟨_, rfl, hb2, hv⟩)
    · exact fun v w w' h hb => StIs.keep h hb
    with_reducible refine Stab.steps_cons ?_ ?_ ?_
    · exact Stab.owes_load rfl (fun v W hb hv => by subst hv; exact ld_stk (blk HX8.out hb)) rfl
    · exact trivial
    with_reducible refine Stab.steps_cons ?_ ?_ ?_
    · (refine Stab.owes_call Try.func17 (by kernel_rfl) (by kernel_rfl) rfl (fun vs W hb hall => ?_) rfl; obtain ⟨_, _, rfl, rfl, rfl⟩ := hall; refine (theirs_any (HVs8.out.keep hb) HCL.out).mono ?_; rintro e w2 ⟨⟨P', n', c', Q', m', d', rfl, hv⟩, hb2⟩; exact ⟨_, rfl, hb2, hv⟩)
    · exact fun v w w' h hb => StIs.keep h hb
    with_reducible refine Stab.steps_cons ?_ ?_ ?_
    · (refine Stab.owes_call Try.func16 (by kernel_rfl) (by kernel_rfl) rfl (fun vs W hb hall => ?_) rfl; obtain ⟨v1, _, rfl, h1, v2, _, rfl, h2, rfl⟩ := hall; have h1 : StIs elD W v1 s := h1; have h2 : StIs elD W v2 s := h2; refine (same_yes h1 h2 (by have := HCL.out; omega)).mono ?_; rintro e w2 ⟨rfl, hb2⟩; exact ⟨_, rfl, hb2, rfl⟩)
    · exact trivial
    with_reducible refine Stab.steps_cons ?_ ?_ ?_
    · exact Stab.owes_not rfl rfl (fun W => Stab.run_not true W) rfl
    · exact trivial
    with_reducible refine Stab.steps_cons ?_ ?_ ?_
    · exact Stab.owes_pick rfl rfl rfl rfl
    · exact trivial
    exact Stab.steps_nil
  · intro y1 y2 w9 hb9 _
    have HB9 := Lib.hid (HB8.out.trans (hb9.mono HB8.out.size))
    have HVs9 := Lib.hid (HVs8.out.keep hb9)
    have HX9 := Lib.hid (blk HX8.out hb9)
    have HU9 := Lib.hid (HU8.out.keep hb9)
    have hcm := (hb9.cell (p := ⟨gm, om, none⟩) HGM8.out).trans HCM8.out
    have hgm : gm < w9.heap.size := Nat.lt_of_lt_of_le HGM8.out hb9.size
    clear hb9
    obtain ⟨x0, x1⟩ := cells2 HX9.out
    have hxl : x < w9.heap.size := lt_of_heap HX9.out
    simp only [Act.put, List.setIfInBounds_toArray, List.set_cons_succ, List.set_cons_zero]
    go_wp2_with fail
    clear x0 x1 hxl
    have HK10 := Lib.hid (below_new w9 (.cells #[] 5))
    have HB10 := Lib.hid (HB9.out.trans (HK10.out.mono HB9.out.size))
    have HVs10 := Lib.hid (HVs9.out.keep HK10.out)
    have HX10 := Lib.hid (blk HX9.out HK10.out)
    have HE10 := Lib.hid (row_nil_new w9)
    skip
    have HU10 := Lib.hid (HU9.out.keep HK10.out)
    generalize w9.alloc (.cells #[] 5) = w10 at *
    obtain ⟨pf, hpf⟩ : ∃ q, w9.heap.size = q := ⟨_, rfl⟩
    rw [hpf] at HE10
    simp only [hpf]
    clear hpf
    have HQ := Lib.hid (Open_st (op := op) HVs10.out HE10.out HOp.out (by have := HLE.out.1; omega) (by have := HLE.out.2; omega) (by simp))
    rw [HOP.out] at HQ
    refine HQ.out.mono ?_
    rintro e w11 hen
    obtain ⟨Pc, nc, cc, Qc, mc, dc, rfl, hv, hb⟩ := hen.of
    have HK12 := Lib.hid (hb.trans ((below_new w11 (.cells #[.slice Pc nc cc, .slice Qc mc dc] 30)).mono hb.size))
    have HB12 := Lib.hid (HB10.out.trans (HK12.out.mono HB10.out.size))
    have HV12 := Lib.hid (hv.keep (below_new w11 (.cells #[.slice Pc nc cc, .slice Qc mc dc] 30)))
    have HVs12 := Lib.hid (HVs10.out.keep HK12.out)
    have HX12 := Lib.hid (blk HX10.out HK12.out)
    have HE12 := Lib.hid (HE10.out.keep HK12.out)
    clear hen hv hb HQ
    go_wp2_with fail
    generalize w11.alloc (.cells #[.slice Pc nc cc, .slice Qc mc dc] 30) = w12 at *
    have HR := Lib.hid (Push_st HV12.out HE12.out (by have := HLE.out.1; show s.vals.length ≤ _; omega) (by have := HLE.out.2; show (s.cs ++ [_]).length ≤ _; rw [List.length_append, List.length_singleton]; omega) (by simp))
    rw [HPE.out] at HR
    refine HR.out.mono ?_
    rintro e w13 hen
    obtain ⟨Pd, nd, cd, Qd, md, dd, rfl, hv, hb⟩ := hen.of
    have HK14 := Lib.hid (hb.trans ((below_new w13 (.cells #[.slice Pd nd cd, .slice Qd md dd] 30)).mono hb.size))
    have HB14 := Lib.hid (HB12.out.trans (HK14.out.mono HB12.out.size))
    have HV14 := Lib.hid (hv.keep (below_new w13 (.cells #[.slice Pd nd cd, .slice Qd md dd] 30)))
    have HVs14 := Lib.hid (HVs12.out.keep HK14.out)
    have HX14 := Lib.hid (blk HX12.out HK14.out)
    have HE14 := Lib.hid (HE12.out.keep HK14.out)
    clear hen hv hb HR
    go_wp2_with fail
    generalize w13.alloc (.cells #[.slice Pd nd cd, .slice Qd md dd] 30) = w14 at *
    have HT := Lib.hid (Close_st HV14.out (by have := HLE.out.1; show (s.vals ++ _).length ≤ _; rw [List.length_append]; simp; omega) (by have := HLE.out.2; show (s.cs ++ [_]).length ≤ _; rw [List.length_append, List.length_singleton]; omega))
    rw [HCB.out] at HT
    refine HT.out.mono ?_
    rintro e w15 hen
    obtain ⟨Px, nx, cx, Qx, mx, dx, Pk, nk, ck, rfl, hv, hre, hb⟩ := hen.of
    simp only at hre
    simp only [HNV.out]
    have HKb := Lib.hid (below2 w15 (.cells #[.slice Px nx cx, .slice Qx mx dx] 30) (.cells #[.int .i64 op, .slice Pk nk ck, .int .i64 (np : Int), .bool false] 46))
    have HK16 := Lib.hid (hb.trans (HKb.out.mono hb.size))
    have HB16 := Lib.hid (HB14.out.trans (HK16.out.mono HB14.out.size))
    have HVs16 := Lib.hid (HVs14.out.keep HK16.out)
    have HV16 := Lib.hid (hv.keep HKb.out)
    have HX16 := Lib.hid (blk HX14.out HK16.out)
    have HE16 := Lib.hid (HE14.out.keep HK16.out)
    have HRE := Lib.hid (hre.keep HKb.out)
    have HP16 := Lib.hid (blk (heap_new w15 (.cells #[.slice Px nx cx, .slice Qx mx dx] 30)) (below_new (w15.alloc (.cells #[.slice Px nx cx, .slice Qx mx dx] 30)) (.cells #[.int .i64 op, .slice Pk nk ck, .int .i64 (np : Int), .bool false] 46)))
    have HR16 := Lib.hid (heap_new (w15.alloc (.cells #[.slice Px nx cx, .slice Qx mx dx] 30)) (.cells #[.int .i64 op, .slice Pk nk ck, .int .i64 (np : Int), .bool false] 46))
    simp only [size_new] at HR16
    clear hen hv hb hre HT
    go_wp2_with fail
    generalize (w15.alloc (.cells #[.slice Px nx cx, .slice Qx mx dx] 30)).alloc (.cells #[.int .i64 op, .slice Pk nk ck, .int .i64 (np : Int), .bool false] 46) = w16 at *
    obtain ⟨o1, ho1⟩ : ∃ o, w15.heap.size = o := ⟨_, rfl⟩
    obtain ⟨o2, ho2⟩ : ∃ o, o1 + 1 = o := ⟨_, rfl⟩
    rw [ho1] at HP16 HR16
    rw [ho2] at HR16
    simp only [ho1, ho2]
    clear ho1 ho2
    have HS1 := Lib.hid (fun W (hW : Below w16.heap.size w16 W) => run_txt (HE16.out.keep hW))
    have HS2 := Lib.hid (fun W (hW : Below w16.heap.size w16 W) => run_txt (HRE.out.keep hW))
    generalize strOfNums ([] : List Int) = S1 at HS1 HS2
    refine Stab.region 144 [.is (.bool true), .is (.bool true), .is (.int .i64 0), .is (.bool true), .is (.bool true), .is (.bool true), .is (.int .i64 0), .is (.bool true), .is (.bool true), .is (.bool true), .is (.int .i64 0), .is (.bool true), .is (.bool true), .is (.bool true), .is (.pointer (some ⟨o2, 0, none⟩)), .is (.int .i64 op), .is (.int .i64 op), .is (.bool true), .is (.bool true), .is (.bool true), .is (.pointer (some ⟨o2, 1, none⟩)), .is (.slice Pk nk ck), .is (.string S1), .is (.slice (some ⟨pf, 0, none⟩) 0 0), .is (.string S1), .is (.bool true), .is (.bool true), .is (.bool true), .is (.pointer (some ⟨o2, 3, none⟩)), .is (.bool false), .is (.bool true), .is (.bool true), .is (.bool true), .is (.pointer (some ⟨o2, 2, none⟩)), .is (.int .i64 (np : Int)), .is (.pointer (some ⟨x, 0, none⟩)), .is (.slice P np cp), .is (.int .i64 (np : Int)), .is (.bool true), .is (.bool true), .is (.bool true), .is (.agg #[.slice Px nx cx, .slice Qx mx dx]), .fits (fun v W => StIs elD W v s), .is (.agg #[.slice P np cp, .slice Q m d]), .fits (fun v W => StIs elD W v s), .is (.bool true), .is (.bool true), .is (.bool true)] (by kernel_rfl) (by kernel_rfl) rfl rfl ?_ ?_
    · with_reducible refine Stab.steps_cons ?_ ?_ ?_
      · exact Stab.owes_move rfl rfl rfl
      · exact trivial
      with_reducible refine Stab.steps_cons ?_ ?_ ?_
      · exact Stab.owes_move rfl rfl rfl
      · exact trivial
      with_reducible refine Stab.steps_cons ?_ ?_ ?_
      · exact Stab.owes_move rfl rfl rfl
      · exact trivial
      with_reducible refine Stab.steps_cons ?_ ?_ ?_
      · exact Stab.owes_bin rfl rfl rfl (fun W => Stab.run_eqE _ _ 0 0 true rfl W) rfl
      · exact trivial
      with_reducible refine Stab.steps_cons ?_ ?_ ?_
      · exact Stab.owes_pick rfl rfl rfl rfl
      · exact trivial
      with_reducible refine Stab.steps_cons ?_ ?_ ?_
      · exact Stab.owes_move rfl rfl rfl
      · exact trivial
      with_reducible refine Stab.steps_cons ?_ ?_ ?_
      · exact Stab.owes_move rfl rfl rfl
      · exact trivial
      with_reducible refine Stab.steps_cons ?_ ?_ ?_
      · exact Stab.owes_bin rfl rfl rfl (fun W => Stab.run_eqE _ _ 0 0 true rfl W) rfl
      · exact trivial
      with_reducible refine Stab.steps_cons ?_ ?_ ?_
      · exact Stab.owes_pick rfl rfl rfl rfl
      · exact trivial
      with_reducible refine Stab.steps_cons ?_ ?_ ?_
      · exact Stab.owes_move rfl rfl rfl
      · exact trivial
      with_reducible refine Stab.steps_cons ?_ ?_ ?_
      · exact Stab.owes_move rfl rfl rfl
      · exact trivial
      with_reducible refine Stab.steps_cons ?_ ?_ ?_
      · exact Stab.owes_bin rfl rfl rfl (fun W => Stab.run_eqE _ _ 0 0 true rfl W) rfl
      · exact trivial
      with_reducible refine Stab.steps_cons ?_ ?_ ?_
      · exact Stab.owes_pick rfl rfl rfl rfl
      · exact trivial
      with_reducible refine Stab.steps_cons ?_ ?_ ?_
      · exact Stab.owes_move rfl rfl rfl
      · exact trivial
      with_reducible refine Stab.steps_cons ?_ ?_ ?_
      · exact Stab.owes_fieldAt rfl rfl (fun W => Stab.run_fC0 _ W) rfl
      · exact trivial
      with_reducible refine Stab.steps_cons ?_ ?_ ?_
      · exact Stab.owes_load rfl (fun v W hb hv => by subst hv; exact Stab.run_cellI _ _ _ W (cells4 (blk HR16.out hb)).1) rfl
      · exact trivial
      with_reducible refine Stab.steps_cons ?_ ?_ ?_
      · exact Stab.owes_move rfl rfl rfl
      · exact trivial
      with_reducible refine Stab.steps_cons ?_ ?_ ?_
      · exact Stab.owes_bin rfl rfl rfl (fun W => Stab.run_eqI _ _ op op true (by simp) W) rfl
      · exact trivial
      with_reducible refine Stab.steps_cons ?_ ?_ ?_
      · exact Stab.owes_pick rfl rfl rfl rfl
      · exact trivial
      with_reducible refine Stab.steps_cons ?_ ?_ ?_
      · exact Stab.owes_move rfl rfl rfl
      · exact trivial
      with_reducible refine Stab.steps_cons ?_ ?_ ?_
      · exact Stab.owes_fieldAt rfl rfl (fun W => Stab.run_fC1 _ W) rfl
      · exact trivial
      with_reducible refine Stab.steps_cons ?_ ?_ ?_
      · exact Stab.owes_load rfl (fun v W hb hv => by subst hv; exact Stab.run_cellS _ _ _ _ _ W (cells4 (blk HR16.out hb)).2.1) rfl
      · exact trivial
      with_reducible refine Stab.steps_cons ?_ ?_ ?_
      · exact Stab.owes_convert rfl (fun v W hb hv => by subst hv; exact HS2.out W hb) rfl
      · exact trivial
      with_reducible refine Stab.steps_cons ?_ ?_ ?_
      · exact Stab.owes_move rfl rfl rfl
      · exact trivial
      with_reducible refine Stab.steps_cons ?_ ?_ ?_
      · exact Stab.owes_convert rfl (fun v W hb hv => by subst hv; exact HS1.out W hb) rfl
      · exact trivial
      with_reducible refine Stab.steps_cons ?_ ?_ ?_
      · exact Stab.owes_bin rfl rfl rfl (fun W => Stab.run_eqS _ _ S1 S1 true (by simp) W) rfl
      · exact trivial
      with_reducible refine Stab.steps_cons ?_ ?_ ?_
      · exact Stab.owes_pick rfl rfl rfl rfl
      · exact trivial
      with_reducible refine Stab.steps_cons ?_ ?_ ?_
      · exact Stab.owes_move rfl rfl rfl
      · exact trivial
      with_reducible refine Stab.steps_cons ?_ ?_ ?_
      · exact Stab.owes_fieldAt rfl rfl (fun W => Stab.run_fC3 _ W) rfl
      · exact trivial
      with_reducible refine Stab.steps_cons ?_ ?_ ?_
      · exact Stab.owes_load rfl (fun v W hb hv => by subst hv; exact Stab.run_cellT _ _ _ W (cells4 (blk HR16.out hb)).2.2.2) rfl
      · exact trivial
      with_reducible refine Stab.steps_cons ?_ ?_ ?_
      · exact Stab.owes_not rfl rfl (fun W => Stab.run_not false W) rfl
      · exact trivial
      with_reducible refine Stab.steps_cons ?_ ?_ ?_
      · exact Stab.owes_pick rfl rfl rfl rfl
      · exact trivial
      with_reducible refine Stab.steps_cons ?_ ?_ ?_
      · exact Stab.owes_move rfl rfl rfl
      · exact trivial
      with_reducible refine Stab.steps_cons ?_ ?_ ?_
      · exact Stab.owes_fieldAt rfl rfl (fun W => Stab.run_fC2 _ W) rfl
      · exact trivial
      with_reducible refine Stab.steps_cons ?_ ?_ ?_
      · exact Stab.owes_load rfl (fun v W hb hv => by subst hv; exact Stab.run_cellI _ _ _ W (cells4 (blk HR16.out hb)).2.2.1) rfl
      · exact trivial
      with_reducible refine Stab.steps_cons ?_ ?_ ?_
      · exact Stab.owes_fieldAt rfl rfl (fun W => Stab.run_fS0 _ W) rfl
      · exact trivial
      with_reducible refine Stab.steps_cons ?_ ?_ ?_
      · exact Stab.owes_load rfl (fun v W hb hv => by subst hv; exact Stab.run_cellS _ _ _ _ _ W (cells2 (blk HX16.out hb)).1) rfl
      · exact trivial
      with_reducible refine Stab.steps_cons ?_ ?_ ?_
      · exact Stab.owes_length rfl rfl (fun W => Stab.run_lenB _ _ _ _ W) rfl
      · exact trivial
      with_reducible refine Stab.steps_cons ?_ ?_ ?_
      · exact Stab.owes_bin rfl rfl rfl (fun W => Stab.run_eqI _ _ (np : Int) (np : Int) true (by simp) W) rfl
      · exact trivial
      with_reducible refine Stab.steps_cons ?_ ?_ ?_
      · exact Stab.owes_pick rfl rfl rfl rfl
      · exact trivial
      with_reducible refine Stab.steps_cons ?_ ?_ ?_
      · exact Stab.owes_move rfl rfl rfl
      · exact trivial
      with_reducible refine Stab.steps_cons ?_ ?_ ?_
      · exact Stab.owes_load rfl (fun v W hb hv => by subst hv; exact ld_stk (blk HP16.out hb)) rfl
      · exact trivial
      with_reducible refine Stab.steps_cons ?_ ?_ ?_
      · (refine Stab.owes_call Try.func17 (by kernel_rfl) (by kernel_rfl) rfl (fun vs W hb hall => ?_) rfl; obtain ⟨_, _, rfl, rfl, rfl⟩ := hall; refine (theirs_any (HV16.out.keep hb) HCL.out).mono ?_; rintro e w2 ⟨⟨P', n', c', Q', m', d', rfl, hv⟩, hb2⟩; exact ⟨_, rfl, hb2, hv⟩)
      · exact fun v w w' h hb => StIs.keep h hb
      with_reducible refine Stab.steps_cons ?_ ?_ ?_
      · exact Stab.owes_load rfl (fun v W hb hv => by subst hv; exact ld_stk (blk HX16.out hb)) rfl
      · exact trivial
      with_reducible refine Stab.steps_cons ?_ ?_ ?_
      · (refine Stab.owes_call Try.func17 (by kernel_rfl) (by kernel_rfl) rfl (fun vs W hb hall => ?_) rfl; obtain ⟨_, _, rfl, rfl, rfl⟩ := hall; refine (theirs_any (HVs16.out.keep hb) HCL.out).mono ?_; rintro e w2 ⟨⟨P', n', c', Q', m', d', rfl, hv⟩, hb2⟩; exact ⟨_, rfl, hb2, hv⟩)
      · exact fun v w w' h hb => StIs.keep h hb
      with_reducible refine Stab.steps_cons ?_ ?_ ?_
      · (refine Stab.owes_call Try.func16 (by kernel_rfl) (by kernel_rfl) rfl (fun vs W hb hall => ?_) rfl; obtain ⟨v1, _, rfl, h1, v2, _, rfl, h2, rfl⟩ := hall; have h1 : StIs elD W v1 s := h1; have h2 : StIs elD W v2 s := h2; refine (same_yes h1 h2 (by have := HCL.out; omega)).mono ?_; rintro e w2 ⟨rfl, hb2⟩; exact ⟨_, rfl, hb2, rfl⟩)
      · exact trivial
      with_reducible refine Stab.steps_cons ?_ ?_ ?_
      · exact Stab.owes_pick rfl rfl rfl rfl
      · exact trivial
      with_reducible refine Stab.steps_cons ?_ ?_ ?_
      · exact Stab.owes_assign rfl rfl rfl
      · exact trivial
      exact Stab.steps_nil
    · intro y3 y4 w17 hb17 _
      simp only [Act.put, List.setIfInBounds_toArray, List.set_cons_succ, List.set_cons_zero]
      go_wp2_with fail
      exact bodyPost_ret (v := .bool true) (by simp [results, Try.results5, go_sem]) rfl ⟨rfl, HB16.out.trans (hb17.mono HB16.out.size)⟩
theorem back_yes_first {v u : Value} {l : List ActV} {b : Int} {r : List Int} {w : World} (h : Row elA w v l) (hu : Row elB w u (b :: r)) {op : Int} (hop : w64 op) (hf : fewL (l.map (·.1)) = true) (hm20 : ¬ 20 < ((b :: r) : List Int).length) (hno : ((b :: r) : List Int).any noT = false) (hcs : (grow (l.map (·.1))).cs ≠ []) (hb0 : b ≠ 0) : Calls Try.prog 5 #[v, u, .int .i64 op] w (Yes w) := by
  have HH := Lib.hid h
  have HU := Lib.hid hu
  have HA := Lib.hid (awake_any w)
  obtain ⟨A, c, rfl, _⟩ := h.form
  obtain ⟨Pm, cm, rfl, hcap, _⟩ := hu.form
  obtain ⟨n, hn⟩ : ∃ n, l.length = n := ⟨_, rfl⟩
  obtain ⟨mm, hmm⟩ : ∃ mm : List Int, mm = (b :: r) := ⟨_, rfl⟩
  rw [← hmm] at HU hm20 hno ⊢
  have HMM := Lib.hid hmm
  obtain ⟨nm, hnm⟩ : ∃ n, mm.length = n := ⟨_, rfl⟩
  rw [hn] at HH ⊢
  rw [hnm] at HU hm20 ⊢
  have HNM := Lib.hid hnm
  have HNO := Lib.hid hno
  have t1 : decide ((20 : Int) < (nm : Int)) = false := decide_eq_false (by omega)
  have t1' : decide (20 < nm) = false := decide_eq_false hm20
  have HN2 : Hid (nm ≤ 20) := (by omega : nm ≤ 20)
  have HM20 : Hid (mm.length ≤ 400000) := by show _ ≤ _; rw [HNM.out]; omega
  have HS := Lib.hid (grow_sane (l.map (·.1)))
  have HLE := Lib.hid (grow_le hf)
  have HF := Lib.hid hf
  obtain ⟨s, hs⟩ : ∃ s, grow (l.map (·.1)) = s := ⟨_, rfl⟩
  have HG0 := Lib.hid hs
  rw [hs] at HS HLE hcs
  have HCS := Lib.hid hcs
  have HCL : Hid (s.cs.length ≤ 400000) := by have := HLE.out.2; exact (by omega : s.cs.length ≤ 400000)
  have hpush := push_ok HS.out hno
  have HP := Lib.hid hpush
  have HWN := Lib.hid (want_back HS.out hno hcs)
  have HE : Hid (mayE [b] = true) := isV_of (hmm ▸ hno) hb0
  have HOP := Lib.hid (open_ok (op := op) HS.out HE.out)
  have HPE := Lib.hid (push_ok (open_sane (op := op) HS.out HE.out) (mayE_any HE.out))
  have HCB := Lib.hid (close_back (op := op) HS.out HE.out)
  simp only at HPE
  have q1 : decide ((0 : Int) < (nm : Int)) = true := decide_eq_true (by rw [← hnm, hmm]; simp)
  have q1' : decide (0 < nm) = true := decide_eq_true (by rw [← hnm, hmm]; simp)
  obtain ⟨gm, om, hPm, _, _⟩ := byte_at HU.out (j := 0) (by rw [hmm]; simp)
  subst hPm
  have q0 : 0 < nm := of_decide_eq_true q1'
  have q2 : (b != 0) = true := by simpa using hb0
  have q3' : 1 ≤ cm := by simp only [List.length_cons] at hcap; omega
  have q3 : (1 : Int) ≤ (cm : Int) := by omega
  have q3d : decide ((1 : Int) ≤ (cm : Int)) = true := decide_eq_true q3
  clear h hu hn hnm hf hs hm20 hpush hno hcs hmm hcap hb0
  have HOp := Lib.hid hop
  clear hop
  go_enter Try.func5, Try.ntmps5
  go_wp2_with fail
  refine HA.out.mono ?_
  rintro e w1 ⟨rfl, hb⟩
  have HB1 := Lib.hid hb
  have HH1 := Lib.hid (HH.out.keep hb)
  have HU1 := Lib.hid (HU.out.keep hb)
  clear hb HA
  go_wp2_with fail
  have HFW := Lib.hid (few_any HH1.out)
  rw [HF.out] at HFW
  refine HFW.out.mono ?_
  rintro e w2 ⟨rfl, rfl⟩
  have HG := Lib.hid (grown_any HH1.out HF.out)
  rw [HG0.out] at HG
  clear HFW HG0
  go_wp2_with fail
  refine HG.out.mono ?_
  rintro e w3 hen
  obtain ⟨P, np, cp, Q, m, d, rfl, hv, hb⟩ := hen.at_
  have HB3 := Lib.hid (HB1.out.trans (hb.mono HB1.out.size))
  have HB4 := Lib.hid (HB3.out.trans ((below_new w3 (.cells #[.slice P np cp, .slice Q m d] 30)).mono HB3.out.size))
  have HV := Lib.hid (hv.keep (below_new w3 (.cells #[.slice P np cp, .slice Q m d] 30)))
  have HU4 := Lib.hid (HU1.out.keep (hb.trans ((below_new w3 (.cells #[.slice P np cp, .slice Q m d] 30)).mono hb.size)))
  have HX := Lib.hid (heap_new w3 (.cells #[.slice P np cp, .slice Q m d] 30))
  clear hen hv hb HG
  go_wp2_with fail
  generalize w3.alloc (.cells #[.slice P np cp, .slice Q m d] 30) = w4 at *
  obtain ⟨x, hx⟩ : ∃ x, w3.heap.size = x := ⟨_, rfl⟩
  rw [hx] at HX
  simp only [hx]
  clear hx
  obtain ⟨lc, hrb, hrc, hml, hnv, hnl, hnc⟩ := HV.out.rows
  have HNV := Lib.hid hnv
  have HNC := Lib.hid hnc
  clear hrb hrc hml hnv hnl hnc
  have HK := Lib.hid (Push_st HV.out HU4.out (by have := HLE.out.1; omega) (by have := HLE.out.2; omega) HM20.out)
  rw [HP.out] at HK
  have hm1 : 0 < m := by
    rw [← HNC.out]
    exact List.length_pos_iff.2 HCS.out
  have t2 : decide ((0 : Int) < (m : Int)) = true := decide_eq_true (by omega)
  have t2' : decide (0 < m) = true := decide_eq_true hm1
  refine HK.out.mono ?_
  rintro e w5 hen
  obtain ⟨P5, n5, c5, Q5, m5, d5, rfl, hv, hb⟩ := hen.of
  have HK5 := Lib.hid (hb.trans ((below_new w5 (.cells #[.slice P5 n5 c5, .slice Q5 m5 d5] 30)).mono hb.size))
  have HB6 := Lib.hid (HB4.out.trans (HK5.out.mono HB4.out.size))
  have HV5 := Lib.hid (hv.keep (below_new w5 (.cells #[.slice P5 n5 c5, .slice Q5 m5 d5] 30)))
  have HVs := Lib.hid (HV.out.keep HK5.out)
  have HU6 := Lib.hid (HU4.out.keep HK5.out)
  have HX6 := Lib.hid (blk HX.out HK5.out)
  have HX6' := Lib.hid (blk HX.out hb)
  obtain ⟨x0, x1⟩ := cells2 HX6'.out
  have hxl : x < w5.heap.size := lt_of_heap HX6'.out
  clear hen hv HK
  obtain ⟨gm', om', hPm, hgm, hcm, _, _⟩ := byte_at HU6.out (j := 0) (by rw [HNM.out]; exact q0)
  simp only [Option.some.injEq, Addr.mk.injEq, and_true] at hPm
  obtain ⟨rfl, rfl⟩ := hPm
  rw [show mm.getD 0 0 = b from by rw [HMM.out]; rfl] at hcm
  have HCM := Lib.hid hcm
  have HGM := Lib.hid hgm
  simp only [Nat.add_zero] at hcm HCM
  clear hcm hgm
  clear hb
  go_wp2_with fail
  clear x0 x1 hxl HX6'
  generalize w5.alloc (.cells #[.slice P5 n5 c5, .slice Q5 m5 d5] 30) = w6 at *
  have HWa := Lib.hid (Want_st HV5.out HU6.out (by show (s.vals ++ mm).length ≤ _; rw [List.length_append]; have := HLE.out.1; have := HNM.out; have := HN2.out; omega) (by have := HLE.out.2; show s.cs.length ≤ _; omega) HM20.out)
  rw [HWN.out] at HWa
  refine HWa.out.mono ?_
  rintro e w7 hen
  obtain ⟨P7, n7, c7, Q7, m7, d7, rfl, hv, hb⟩ := hen.of
  have HK7 := Lib.hid (hb.trans ((below_new w7 (.cells #[.slice P7 n7 c7, .slice Q7 m7 d7] 30)).mono hb.size))
  have HB8 := Lib.hid (HB6.out.trans (HK7.out.mono HB6.out.size))
  have HV8 := Lib.hid (hv.keep (below_new w7 (.cells #[.slice P7 n7 c7, .slice Q7 m7 d7] 30)))
  have HVs8 := Lib.hid (HVs.out.keep HK7.out)
  have HU8 := Lib.hid (HU6.out.keep HK7.out)
  have HX8 := Lib.hid (blk HX6.out HK7.out)
  have HZ8 := Lib.hid (heap_new w7 (.cells #[.slice P7 n7 c7, .slice Q7 m7 d7] 30))
  clear hen hv hb HWa
  go_wp2_with fail
  generalize w7.alloc (.cells #[.slice P7 n7 c7, .slice Q7 m7 d7] 30) = w8 at *
  obtain ⟨z, hz⟩ : ∃ z, w7.heap.size = z := ⟨_, rfl⟩
  rw [hz] at HZ8
  simp only [hz]
  clear hz
  have HCM8 := Lib.hid ((HK7.out.cell (p := ⟨gm, om, none⟩) HGM.out).trans HCM.out)
  have HGM8 : Hid (gm < w8.heap.size) := Nat.lt_of_lt_of_le HGM.out HK7.out.size
  refine Stab.region 144 [.is (.int .i64 0), .is (.bool false), .is (.bool false), .is (.agg #[.slice P7 n7 c7, .slice Q7 m7 d7]), .fits (fun v W => StIs elD W v s), .is (.agg #[.slice P np cp, .slice Q m d]), .fits (fun v W => StIs elD W v s), .is (.bool true), .is (.bool false), .is (.bool false)] (by kernel_rfl) (by kernel_rfl) rfl rfl ?_ ?_
  · with_reducible refine Stab.steps_cons ?_ ?_ ?_
    · exact Stab.owes_move rfl rfl rfl
    · exact trivial
    with_reducible refine Stab.steps_cons ?_ ?_ ?_
    · exact Stab.owes_bin rfl rfl rfl (fun W => Stab.run_neE _ _ 0 0 false rfl W) rfl
    · exact trivial
    with_reducible refine Stab.steps_cons ?_ ?_ ?_
    · exact Stab.owes_move rfl rfl rfl
    · exact trivial
    with_reducible refine Stab.steps_cons ?_ ?_ ?_
    · exact Stab.owes_load rfl (fun v W hb hv => by subst hv; exact ld_stk (blk HZ8.out hb)) rfl
    · exact trivial
    with_reducible refine Stab.steps_cons ?_ ?_ ?_
    · (refine Stab.owes_call Try.func17 (by kernel_rfl) (by kernel_rfl) rfl (fun vs W hb hall => ?_) rfl; obtain ⟨_, _, rfl, rfl, rfl⟩ := hall; refine (theirs_any (HV8.out.keep hb) HCL.out).mono ?_; rintro e w2 ⟨⟨P', n', c', Q', m', d', rfl, hv⟩, hb2⟩; exact ⟨_, rfl, hb2, hv⟩)
    · exact fun v w w' h hb => StIs.keep h hb
    with_reducible refine Stab.steps_cons ?_ ?_ ?_
    · exact Stab.owes_load rfl (fun v W hb hv => by subst hv; exact ld_stk (blk HX8.out hb)) rfl
    · exact trivial
    with_reducible refine Stab.steps_cons ?_ ?_ ?_
    · (refine Stab.owes_call Try.func17 (by kernel_rfl) (by kernel_rfl) rfl (fun vs W hb hall => ?_) rfl; obtain ⟨_, _, rfl, rfl, rfl⟩ := hall; refine (theirs_any (HVs8.out.keep hb) HCL.out).mono ?_; rintro e w2 ⟨⟨P', n', c', Q', m', d', rfl, hv⟩, hb2⟩; exact ⟨_, rfl, hb2, hv⟩)
    · exact fun v w w' h hb => StIs.keep h hb
    with_reducible refine Stab.steps_cons ?_ ?_ ?_
    · (refine Stab.owes_call Try.func16 (by kernel_rfl) (by kernel_rfl) rfl (fun vs W hb hall => ?_) rfl; obtain ⟨v1, _, rfl, h1, v2, _, rfl, h2, rfl⟩ := hall; have h1 : StIs elD W v1 s := h1; have h2 : StIs elD W v2 s := h2; refine (same_yes h1 h2 (by have := HCL.out; omega)).mono ?_; rintro e w2 ⟨rfl, hb2⟩; exact ⟨_, rfl, hb2, rfl⟩)
    · exact trivial
    with_reducible refine Stab.steps_cons ?_ ?_ ?_
    · exact Stab.owes_not rfl rfl (fun W => Stab.run_not true W) rfl
    · exact trivial
    with_reducible refine Stab.steps_cons ?_ ?_ ?_
    · exact Stab.owes_pick rfl rfl rfl rfl
    · exact trivial
    exact Stab.steps_nil
  · intro y1 y2 w9 hb9 _
    have HB9 := Lib.hid (HB8.out.trans (hb9.mono HB8.out.size))
    have HVs9 := Lib.hid (HVs8.out.keep hb9)
    have HX9 := Lib.hid (blk HX8.out hb9)
    have HU9 := Lib.hid (HU8.out.keep hb9)
    have hcm := (hb9.cell (p := ⟨gm, om, none⟩) HGM8.out).trans HCM8.out
    have hgm : gm < w9.heap.size := Nat.lt_of_lt_of_le HGM8.out hb9.size
    clear hb9
    obtain ⟨x0, x1⟩ := cells2 HX9.out
    have hxl : x < w9.heap.size := lt_of_heap HX9.out
    simp only [Act.put, List.setIfInBounds_toArray, List.set_cons_succ, List.set_cons_zero]
    go_wp2_with fail
    clear x0 x1 hxl
    have HK10 := Lib.hid (below_new w9 (.cells #[] 5))
    have HB10 := Lib.hid (HB9.out.trans (HK10.out.mono HB9.out.size))
    have HVs10 := Lib.hid (HVs9.out.keep HK10.out)
    have HX10 := Lib.hid (blk HX9.out HK10.out)
    have HE10 := Lib.hid (row_nil_new w9)
    skip
    have HU10 := Lib.hid (HU9.out.keep HK10.out)
    rw [HMM.out] at HU10
    have HF10 := Lib.hid (row_first HU10.out)
    clear HE10
    have HE10 := HF10
    generalize w9.alloc (.cells #[] 5) = w10 at *
    have HQ := Lib.hid (Open_st (op := op) HVs10.out HE10.out HOp.out (by have := HLE.out.1; omega) (by have := HLE.out.2; omega) (by simp))
    rw [HOP.out] at HQ
    refine HQ.out.mono ?_
    rintro e w11 hen
    obtain ⟨Pc, nc, cc, Qc, mc, dc, rfl, hv, hb⟩ := hen.of
    have HK12 := Lib.hid (hb.trans ((below_new w11 (.cells #[.slice Pc nc cc, .slice Qc mc dc] 30)).mono hb.size))
    have HB12 := Lib.hid (HB10.out.trans (HK12.out.mono HB10.out.size))
    have HV12 := Lib.hid (hv.keep (below_new w11 (.cells #[.slice Pc nc cc, .slice Qc mc dc] 30)))
    have HVs12 := Lib.hid (HVs10.out.keep HK12.out)
    have HX12 := Lib.hid (blk HX10.out HK12.out)
    have HE12 := Lib.hid (HE10.out.keep HK12.out)
    clear hen hv hb HQ
    go_wp2_with fail
    generalize w11.alloc (.cells #[.slice Pc nc cc, .slice Qc mc dc] 30) = w12 at *
    have HR := Lib.hid (Push_st HV12.out HE12.out (by have := HLE.out.1; show s.vals.length ≤ _; omega) (by have := HLE.out.2; show (s.cs ++ [_]).length ≤ _; rw [List.length_append, List.length_singleton]; omega) (by simp))
    rw [HPE.out] at HR
    refine HR.out.mono ?_
    rintro e w13 hen
    obtain ⟨Pd, nd, cd, Qd, md, dd, rfl, hv, hb⟩ := hen.of
    have HK14 := Lib.hid (hb.trans ((below_new w13 (.cells #[.slice Pd nd cd, .slice Qd md dd] 30)).mono hb.size))
    have HB14 := Lib.hid (HB12.out.trans (HK14.out.mono HB12.out.size))
    have HV14 := Lib.hid (hv.keep (below_new w13 (.cells #[.slice Pd nd cd, .slice Qd md dd] 30)))
    have HVs14 := Lib.hid (HVs12.out.keep HK14.out)
    have HX14 := Lib.hid (blk HX12.out HK14.out)
    have HE14 := Lib.hid (HE12.out.keep HK14.out)
    clear hen hv hb HR
    go_wp2_with fail
    generalize w13.alloc (.cells #[.slice Pd nd cd, .slice Qd md dd] 30) = w14 at *
    have HT := Lib.hid (Close_st HV14.out (by have := HLE.out.1; show (s.vals ++ _).length ≤ _; rw [List.length_append]; simp; omega) (by have := HLE.out.2; show (s.cs ++ [_]).length ≤ _; rw [List.length_append, List.length_singleton]; omega))
    rw [HCB.out] at HT
    refine HT.out.mono ?_
    rintro e w15 hen
    obtain ⟨Px, nx, cx, Qx, mx, dx, Pk, nk, ck, rfl, hv, hre, hb⟩ := hen.of
    simp only at hre
    simp only [HNV.out]
    have HKb := Lib.hid (below2 w15 (.cells #[.slice Px nx cx, .slice Qx mx dx] 30) (.cells #[.int .i64 op, .slice Pk nk ck, .int .i64 (np : Int), .bool false] 46))
    have HK16 := Lib.hid (hb.trans (HKb.out.mono hb.size))
    have HB16 := Lib.hid (HB14.out.trans (HK16.out.mono HB14.out.size))
    have HVs16 := Lib.hid (HVs14.out.keep HK16.out)
    have HV16 := Lib.hid (hv.keep HKb.out)
    have HX16 := Lib.hid (blk HX14.out HK16.out)
    have HE16 := Lib.hid (HE14.out.keep HK16.out)
    have HRE := Lib.hid (hre.keep HKb.out)
    have HP16 := Lib.hid (blk (heap_new w15 (.cells #[.slice Px nx cx, .slice Qx mx dx] 30)) (below_new (w15.alloc (.cells #[.slice Px nx cx, .slice Qx mx dx] 30)) (.cells #[.int .i64 op, .slice Pk nk ck, .int .i64 (np : Int), .bool false] 46)))
    have HR16 := Lib.hid (heap_new (w15.alloc (.cells #[.slice Px nx cx, .slice Qx mx dx] 30)) (.cells #[.int .i64 op, .slice Pk nk ck, .int .i64 (np : Int), .bool false] 46))
    simp only [size_new] at HR16
    clear hen hv hb hre HT
    go_wp2_with fail
    generalize (w15.alloc (.cells #[.slice Px nx cx, .slice Qx mx dx] 30)).alloc (.cells #[.int .i64 op, .slice Pk nk ck, .int .i64 (np : Int), .bool false] 46) = w16 at *
    obtain ⟨o1, ho1⟩ : ∃ o, w15.heap.size = o := ⟨_, rfl⟩
    obtain ⟨o2, ho2⟩ : ∃ o, o1 + 1 = o := ⟨_, rfl⟩
    rw [ho1] at HP16 HR16
    rw [ho2] at HR16
    simp only [ho1, ho2]
    clear ho1 ho2
    have HS1 := Lib.hid (fun W (hW : Below w16.heap.size w16 W) => run_txt (HE16.out.keep hW))
    have HS2 := Lib.hid (fun W (hW : Below w16.heap.size w16 W) => run_txt (HRE.out.keep hW))
    generalize strOfNums [b] = S1 at HS1 HS2
    refine Stab.region 144 [.is (.bool true), .is (.bool true), .is (.int .i64 0), .is (.bool true), .is (.bool true), .is (.bool true), .is (.int .i64 0), .is (.bool true), .is (.bool true), .is (.bool true), .is (.int .i64 0), .is (.bool true), .is (.bool true), .is (.bool true), .is (.pointer (some ⟨o2, 0, none⟩)), .is (.int .i64 op), .is (.int .i64 op), .is (.bool true), .is (.bool true), .is (.bool true), .is (.pointer (some ⟨o2, 1, none⟩)), .is (.slice Pk nk ck), .is (.string S1), .is (.slice (some ⟨gm, om, none⟩) 1 cm), .is (.string S1), .is (.bool true), .is (.bool true), .is (.bool true), .is (.pointer (some ⟨o2, 3, none⟩)), .is (.bool false), .is (.bool true), .is (.bool true), .is (.bool true), .is (.pointer (some ⟨o2, 2, none⟩)), .is (.int .i64 (np : Int)), .is (.pointer (some ⟨x, 0, none⟩)), .is (.slice P np cp), .is (.int .i64 (np : Int)), .is (.bool true), .is (.bool true), .is (.bool true), .is (.agg #[.slice Px nx cx, .slice Qx mx dx]), .fits (fun v W => StIs elD W v s), .is (.agg #[.slice P np cp, .slice Q m d]), .fits (fun v W => StIs elD W v s), .is (.bool true), .is (.bool true), .is (.bool true)] (by kernel_rfl) (by kernel_rfl) rfl rfl ?_ ?_
    · with_reducible refine Stab.steps_cons ?_ ?_ ?_
      · exact Stab.owes_move rfl rfl rfl
      · exact trivial
      with_reducible refine Stab.steps_cons ?_ ?_ ?_
      · exact Stab.owes_move rfl rfl rfl
      · exact trivial
      with_reducible refine Stab.steps_cons ?_ ?_ ?_
      · exact Stab.owes_move rfl rfl rfl
      · exact trivial
      with_reducible refine Stab.steps_cons ?_ ?_ ?_
      · exact Stab.owes_bin rfl rfl rfl (fun W => Stab.run_eqE _ _ 0 0 true rfl W) rfl
      · exact trivial
      with_reducible refine Stab.steps_cons ?_ ?_ ?_
      · exact Stab.owes_pick rfl rfl rfl rfl
      · exact trivial
      with_reducible refine Stab.steps_cons ?_ ?_ ?_
      · exact Stab.owes_move rfl rfl rfl
      · exact trivial
      with_reducible refine Stab.steps_cons ?_ ?_ ?_
      · exact Stab.owes_move rfl rfl rfl
      · exact trivial
      with_reducible refine Stab.steps_cons ?_ ?_ ?_
      · exact Stab.owes_bin rfl rfl rfl (fun W => Stab.run_eqE _ _ 0 0 true rfl W) rfl
      · exact trivial
      with_reducible refine Stab.steps_cons ?_ ?_ ?_
      · exact Stab.owes_pick rfl rfl rfl rfl
      · exact trivial
      with_reducible refine Stab.steps_cons ?_ ?_ ?_
      · exact Stab.owes_move rfl rfl rfl
      · exact trivial
      with_reducible refine Stab.steps_cons ?_ ?_ ?_
      · exact Stab.owes_move rfl rfl rfl
      · exact trivial
      with_reducible refine Stab.steps_cons ?_ ?_ ?_
      · exact Stab.owes_bin rfl rfl rfl (fun W => Stab.run_eqE _ _ 0 0 true rfl W) rfl
      · exact trivial
      with_reducible refine Stab.steps_cons ?_ ?_ ?_
      · exact Stab.owes_pick rfl rfl rfl rfl
      · exact trivial
      with_reducible refine Stab.steps_cons ?_ ?_ ?_
      · exact Stab.owes_move rfl rfl rfl
      · exact trivial
      with_reducible refine Stab.steps_cons ?_ ?_ ?_
      · exact Stab.owes_fieldAt rfl rfl (fun W => Stab.run_fC0 _ W) rfl
      · exact trivial
      with_reducible refine Stab.steps_cons ?_ ?_ ?_
      · exact Stab.owes_load rfl (fun v W hb hv => by subst hv; exact Stab.run_cellI _ _ _ W (cells4 (blk HR16.out hb)).1) rfl
      · exact trivial
      with_reducible refine Stab.steps_cons ?_ ?_ ?_
      · exact Stab.owes_move rfl rfl rfl
      · exact trivial
      with_reducible refine Stab.steps_cons ?_ ?_ ?_
      · exact Stab.owes_bin rfl rfl rfl (fun W => Stab.run_eqI _ _ op op true (by simp) W) rfl
      · exact trivial
      with_reducible refine Stab.steps_cons ?_ ?_ ?_
      · exact Stab.owes_pick rfl rfl rfl rfl
      · exact trivial
      with_reducible refine Stab.steps_cons ?_ ?_ ?_
      · exact Stab.owes_move rfl rfl rfl
      · exact trivial
      with_reducible refine Stab.steps_cons ?_ ?_ ?_
      · exact Stab.owes_fieldAt rfl rfl (fun W => Stab.run_fC1 _ W) rfl
      · exact trivial
      with_reducible refine Stab.steps_cons ?_ ?_ ?_
      · exact Stab.owes_load rfl (fun v W hb hv => by subst hv; exact Stab.run_cellS _ _ _ _ _ W (cells4 (blk HR16.out hb)).2.1) rfl
      · exact trivial
      with_reducible refine Stab.steps_cons ?_ ?_ ?_
      · exact Stab.owes_convert rfl (fun v W hb hv => by subst hv; exact HS2.out W hb) rfl
      · exact trivial
      with_reducible refine Stab.steps_cons ?_ ?_ ?_
      · exact Stab.owes_move rfl rfl rfl
      · exact trivial
      with_reducible refine Stab.steps_cons ?_ ?_ ?_
      · exact Stab.owes_convert rfl (fun v W hb hv => by subst hv; exact HS1.out W hb) rfl
      · exact trivial
      with_reducible refine Stab.steps_cons ?_ ?_ ?_
      · exact Stab.owes_bin rfl rfl rfl (fun W => Stab.run_eqS _ _ S1 S1 true (by simp) W) rfl
      · exact trivial
      with_reducible refine Stab.steps_cons ?_ ?_ ?_
      · exact Stab.owes_pick rfl rfl rfl rfl
      · exact trivial
      with_reducible refine Stab.steps_cons ?_ ?_ ?_
      · exact Stab.owes_move rfl rfl rfl
      · exact trivial
      with_reducible refine Stab.steps_cons ?_ ?_ ?_
      · exact Stab.owes_fieldAt rfl rfl (fun W => Stab.run_fC3 _ W) rfl
      · exact trivial
      with_reducible refine Stab.steps_cons ?_ ?_ ?_
      · exact Stab.owes_load rfl (fun v W hb hv => by subst hv; exact Stab.run_cellT _ _ _ W (cells4 (blk HR16.out hb)).2.2.2) rfl
      · exact trivial
      with_reducible refine Stab.steps_cons ?_ ?_ ?_
      · exact Stab.owes_not rfl rfl (fun W => Stab.run_not false W) rfl
      · exact trivial
      with_reducible refine Stab.steps_cons ?_ ?_ ?_
      · exact Stab.owes_pick rfl rfl rfl rfl
      · exact trivial
      with_reducible refine Stab.steps_cons ?_ ?_ ?_
      · exact Stab.owes_move rfl rfl rfl
      · exact trivial
      with_reducible refine Stab.steps_cons ?_ ?_ ?_
      · exact Stab.owes_fieldAt rfl rfl (fun W => Stab.run_fC2 _ W) rfl
      · exact trivial
      with_reducible refine Stab.steps_cons ?_ ?_ ?_
      · exact Stab.owes_load rfl (fun v W hb hv => by subst hv; exact Stab.run_cellI _ _ _ W (cells4 (blk HR16.out hb)).2.2.1) rfl
      · exact trivial
      with_reducible refine Stab.steps_cons ?_ ?_ ?_
      · exact Stab.owes_fieldAt rfl rfl (fun W => Stab.run_fS0 _ W) rfl
      · exact trivial
      with_reducible refine Stab.steps_cons ?_ ?_ ?_
      · exact Stab.owes_load rfl (fun v W hb hv => by subst hv; exact Stab.run_cellS _ _ _ _ _ W (cells2 (blk HX16.out hb)).1) rfl
      · exact trivial
      with_reducible refine Stab.steps_cons ?_ ?_ ?_
      · exact Stab.owes_length rfl rfl (fun W => Stab.run_lenB _ _ _ _ W) rfl
      · exact trivial
      with_reducible refine Stab.steps_cons ?_ ?_ ?_
      · exact Stab.owes_bin rfl rfl rfl (fun W => Stab.run_eqI _ _ (np : Int) (np : Int) true (by simp) W) rfl
      · exact trivial
      with_reducible refine Stab.steps_cons ?_ ?_ ?_
      · exact Stab.owes_pick rfl rfl rfl rfl
      · exact trivial
      with_reducible refine Stab.steps_cons ?_ ?_ ?_
      · exact Stab.owes_move rfl rfl rfl
      · exact trivial
      with_reducible refine Stab.steps_cons ?_ ?_ ?_
      · exact Stab.owes_load rfl (fun v W hb hv => by subst hv; exact ld_stk (blk HP16.out hb)) rfl
      · exact trivial
      with_reducible refine Stab.steps_cons ?_ ?_ ?_
      · (refine Stab.owes_call Try.func17 (by kernel_rfl) (by kernel_rfl) rfl (fun vs W hb hall => ?_) rfl; obtain ⟨_, _, rfl, rfl, rfl⟩ := hall; refine (theirs_any (HV16.out.keep hb) HCL.out).mono ?_; rintro e w2 ⟨⟨P', n', c', Q', m', d', rfl, hv⟩, hb2⟩; exact ⟨_, rfl, hb2, hv⟩)
      · exact fun v w w' h hb => StIs.keep h hb
      with_reducible refine Stab.steps_cons ?_ ?_ ?_
      · exact Stab.owes_load rfl (fun v W hb hv => by subst hv; exact ld_stk (blk HX16.out hb)) rfl
      · exact trivial
      with_reducible refine Stab.steps_cons ?_ ?_ ?_
      · (refine Stab.owes_call Try.func17 (by kernel_rfl) (by kernel_rfl) rfl (fun vs W hb hall => ?_) rfl; obtain ⟨_, _, rfl, rfl, rfl⟩ := hall; refine (theirs_any (HVs16.out.keep hb) HCL.out).mono ?_; rintro e w2 ⟨⟨P', n', c', Q', m', d', rfl, hv⟩, hb2⟩; exact ⟨_, rfl, hb2, hv⟩)
      · exact fun v w w' h hb => StIs.keep h hb
      with_reducible refine Stab.steps_cons ?_ ?_ ?_
      · (refine Stab.owes_call Try.func16 (by kernel_rfl) (by kernel_rfl) rfl (fun vs W hb hall => ?_) rfl; obtain ⟨v1, _, rfl, h1, v2, _, rfl, h2, rfl⟩ := hall; have h1 : StIs elD W v1 s := h1; have h2 : StIs elD W v2 s := h2; refine (same_yes h1 h2 (by have := HCL.out; omega)).mono ?_; rintro e w2 ⟨rfl, hb2⟩; exact ⟨_, rfl, hb2, rfl⟩)
      · exact trivial
      with_reducible refine Stab.steps_cons ?_ ?_ ?_
      · exact Stab.owes_pick rfl rfl rfl rfl
      · exact trivial
      with_reducible refine Stab.steps_cons ?_ ?_ ?_
      · exact Stab.owes_assign rfl rfl rfl
      · exact trivial
      exact Stab.steps_nil
    · intro y3 y4 w17 hb17 _
      simp only [Act.put, List.setIfInBounds_toArray, List.set_cons_succ, List.set_cons_zero]
      go_wp2_with fail
      exact bodyPost_ret (v := .bool true) (by simp [results, Try.results5, go_sem]) rfl ⟨rfl, HB16.out.trans (hb17.mono HB16.out.size)⟩
end Go.Proofs.Ytdafldahmojpdaa.Stk
