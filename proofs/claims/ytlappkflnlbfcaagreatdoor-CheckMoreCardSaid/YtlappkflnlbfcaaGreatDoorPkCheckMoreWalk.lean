/- CheckMoreWalk. -/
import Derived.Test.YtlappkflnlbfcaaGreatDoorPkChkEnvC
import Derived.Test.YtlappkflnlbfcaaGreatDoorPkChkResN
import Derived.Test.YtlappkflnlbfcaaGreatDoorPkBodAppend
/- Law CheckMore, walked (gen_ckmore.py). -/
namespace Go.Proofs.YtlappkflnlbfcaaGreatDoor.Chk
open Go.RowKit Row9 Stk
set_option maxRecDepth 100000
set_option maxHeartbeats 8000000
set_option linter.unusedVariables false
theorem row_blk2 {w : World} {b : Nat} {v : Int} (h : w.heap[b]? = some (.cells #[.int .u8 v] 5 (0, 0))) (hv : 0 ≤ v ∧ v < 256) : Row elB w (.slice (some ⟨b, 0, none⟩) 1 1) [v] := by
  refine ⟨⟨_, 1, rfl, Nat.le_refl _, by omega, fun _ => ⟨b, 0, rfl, lt_of_heap h, fun j p hj => ?_⟩⟩, fun p hp => ?_⟩
  · rcases j with _ | j
    · obtain rfl := Option.some.inj hj
      intro i u hu
      have e : i = 0 := by
        rcases i with _ | i
        · rfl
        · simp [elB] at hu
      subst e
      simp [elB] at hu
      subst hu
      exact (cells_at h 0).1
    · simp at hj
  · obtain rfl := List.mem_singleton.1 hp
    exact hv
theorem env_wit {w : World} {V : EV} {E : EnvP} (h : EnvOk elGP w V E) {P : Option Addr} {n c : Nat} {R : List Int} (hr : Row elB w (.slice P n c) R) : EnvOk elGP w { V with Pr := P, nr := n, cr := c } (withR E R) := ⟨h.t, h.f, h.g, h.l, hr, h.it, h.im⟩
def one1 (o : Int) : Ins.Ins × Value := (⟨o, 0, 0, 0, []⟩, .slice none 0 0)
theorem one1_own (w : World) (o : Int) : Ins.OwnR (w.alloc (.cells #[.int .i64 o, .int .i64 0, .int .i64 0, .int .u64 0, .slice none 0 0] 33)) w.heap.size (.slice (some ⟨w.heap.size, 0, none⟩) 1 1) [one1 o] :=
  ⟨rfl, .inr ⟨_, _, _, rfl, Nat.le_refl _, heap_new _ _, Nat.le_refl _, by simp [maxLen], by simp, by simp [one1, Ins.c5]⟩⟩
theorem none_own (w : World) : Ins.OwnR (w.alloc (.cells #[] 33)) w.heap.size (.slice (some ⟨w.heap.size, 0, none⟩) 0 0) [] := ⟨rfl, .inr ⟨_, _, _, rfl, Nat.le_refl _, heap_new _ _, Nat.le_refl _, by simp [maxLen], by simp, by simp⟩⟩
theorem env_nil {w : World} {V : EV} {E : EnvP} (h : EnvOk elGP w V E) : EnvOk elGP w { V with Pr := none, nr := 0, cr := 0 } (withR E []) := ⟨h.t, h.f, h.g, h.l, Row.nil _ _, h.it, h.im⟩
theorem bd_nil {E : EnvP} (h : FnBd E) : FnBd (withR E []) := ⟨h.1, Nat.zero_le _⟩
theorem bd_126 {E : EnvP} (h : FnBd E) : FnBd (withR E [126]) := ⟨h.1, show 1 ≤ 1000 by omega⟩
theorem more_law (hC : EnvC) (v : Value) (V : EV) (E : EnvP) (l : List (Ins.Ins × Value)) (v2 : Value) (m : List (Ins.Ins × Value)) (W : World) (hK : Ins.KTab W) (hA : Ins.ATab W) (h0 : EnvOk elGD W V E) (hr : Ins.InRow W v l) (hr2 : Ins.InRow W v2 m) : Calls Tryz.prog 6 #[evV V E, v, v2] W fun e w' => e = .returned (.bool true) ∧ Below W.heap.size W w' := by
  obtain ⟨⟨A, c, rfl, hlc, hc9, hpl⟩, _⟩ := id hr
  obtain ⟨n, hn⟩ : ∃ n, l.length = n := ⟨_, rfl⟩
  rw [hn] at hr hlc ⊢
  obtain ⟨⟨A2, c2, rfl, hlc2, hc92, _⟩, _⟩ := id hr2
  obtain ⟨n2, hn2⟩ : ∃ n2, m.length = n2 := ⟨_, rfl⟩
  rw [hn2] at hr2 hlc2 ⊢
  have HN2 := Lib.hid hn2
  have HR2 := Lib.hid hr2
  clear hn2 hr2 hlc2 hc92
  have HN := Lib.hid hn
  have HK := Lib.hid hK
  have HA := Lib.hid hA
  have HE := Lib.hid h0
  have HR := Lib.hid hr
  have HC := Lib.hid hC
  have HB0 := Lib.hid (below_new W (.cells #[.slice V.Pt V.nt V.ct, .slice V.Pf V.nf V.cf, .int .i64 E.tables, .int .i64 E.mems, .slice V.Pg V.ng V.cg, .slice V.Pl V.nl V.cl, .slice V.Pr V.nr V.cr] 27))
  have HX0 := Lib.hid (heap_new W (.cells #[.slice V.Pt V.nt V.ct, .slice V.Pf V.nf V.cf, .int .i64 E.tables, .int .i64 E.mems, .slice V.Pg V.ng V.cg, .slice V.Pl V.nl V.cl, .slice V.Pr V.nr V.cr] 27))
  clear hn hK hA h0 hr hC hpl hlc hc9
  show Calls _ _ #[(.agg #[.slice V.Pt V.nt V.ct, .slice V.Pf V.nf V.cf, .int .i64 E.tables, .int .i64 E.mems, .slice V.Pg V.ng V.cg, .slice V.Pl V.nl V.cl, .slice V.Pr V.nr V.cr]), .slice A n c, .slice A2 n2 c2] _ _
  go_enter Tryz.func6, Tryz.ntmps6
  go_wp2_with fail
  refine (awake_any (HK.out.keep HB0.out) (HA.out.keep HB0.out)).mono ?_
  rintro e w1 ⟨rfl, hb⟩
  have HB1 := Lib.hid (HB0.out.trans (hb.mono HB0.out.size))
  have HX1 := Lib.hid (blk HX0.out hb)
  clear hb HB0 HX0
  obtain ⟨x, hx⟩ : ∃ x, W.heap.size = x := ⟨_, rfl⟩
  rw [hx] at HX1
  simp only [hx]
  obtain ⟨a0, a1, a2, a3, a4, a5, a6⟩ := cells7b HX1.out
  have xl : x < w1.heap.size := lt_of_heap HX1.out
  go_wp2_with fail
  refine (small_any (HE.out.keep HB1.out)).mono ?_
  rintro e w2 ⟨rfl, hb⟩
  have HB2 := Lib.hid (HB1.out.trans (hb.mono HB1.out.size))
  have HX2 := Lib.hid (blk HX1.out hb)
  clear hb HB1 HX1 a0 a1 a2 a3 a4 a5 a6 xl
  cases hs : smallE E with
  | false =>
    go_wp2_with fail
    exact bodyPost_ret (v := .bool true) (by simp [results, Tryz.results6, go_sem]) rfl ⟨rfl, HB2.out⟩
  | true =>
    obtain ⟨hF, hG, hRl⟩ := small_bd hs
    have HF := Lib.hid hF
    have HG := Lib.hid hG
    clear hs hF hG hRl
    go_wp2_with fail
    refine (Bod.few_any 60 HN.out (HR.out.keep HB2.out)).mono ?_
    rintro e w3 ⟨⟨bf, rfl, hbf⟩, hww⟩
    subst hww
    cases bf with
    | false =>
      go_wp2_with fail
      exact bodyPost_ret (v := .bool true) (by simp [results, Tryz.results6, go_sem]) rfl ⟨rfl, HB2.out⟩
    | true =>
      have hfew := (hbf.1 rfl).1
      rw [HN.out] at hfew
      have hnf : n ≤ 60 := by omega
      clear hfew hbf
      go_wp2_with fail
      refine (Bod.few_any 60 HN2.out (HR2.out.keep HB2.out)).mono ?_
      rintro e w3 ⟨⟨bf, rfl, hbf⟩, hww⟩
      subst hww
      cases bf with
      | false =>
        go_wp2_with fail
        exact bodyPost_ret (v := .bool true) (by simp [results, Tryz.results6, go_sem]) rfl ⟨rfl, HB2.out⟩
      | true =>
        have hfew := (hbf.1 rfl).1
        rw [HN2.out] at hfew
        have hnf2 : n2 ≤ 60 := by omega
        clear hfew hbf
        obtain ⟨a0, a1, a2, a3, a4, a5, a6⟩ := cells7b HX2.out
        have xl : x < w3.heap.size := lt_of_heap HX2.out
        go_wp2_with fail
        refine (HC.out w3 V E (HE.out.keep HB2.out) HG.out).mono ?_
        rintro e w4 ⟨⟨V1, rfl, hev⟩, hb⟩
        have HB4 := Lib.hid (HB2.out.trans (hb.mono HB2.out.size))
        have HX4 := Lib.hid (blk HX2.out hb)
        have HEV := Lib.hid hev
        clear hb hev HB2 HX2 a0 a1 a2 a3 a4 a5 a6 xl
        rw [show evV V1 E = (.agg #[.slice V1.Pt V1.nt V1.ct, .slice V1.Pf V1.nf V1.cf, .int .i64 E.tables, .int .i64 E.mems, .slice V1.Pg V1.ng V1.cg, .slice V1.Pl V1.nl V1.cl, .slice V1.Pr V1.nr V1.cr]) from rfl]
        have HB5n := Lib.hid (below_new w4 (.cells #[.slice V1.Pt V1.nt V1.ct, .slice V1.Pf V1.nf V1.cf, .int .i64 E.tables, .int .i64 E.mems, .slice V1.Pg V1.ng V1.cg, .slice V1.Pl V1.nl V1.cl, .slice none 0 0] 45))
        have HY5 := Lib.hid (heap_new w4 (.cells #[.slice V1.Pt V1.nt V1.ct, .slice V1.Pf V1.nf V1.cf, .int .i64 E.tables, .int .i64 E.mems, .slice V1.Pg V1.ng V1.cg, .slice V1.Pl V1.nl V1.cl, .slice none 0 0] 45))
        have HV5 := Lib.hid (env_nil (HEV.out.keep HB5n.out))
        have HB5 := Lib.hid (HB4.out.trans (HB5n.out.mono HB4.out.size))
        have HX5 := Lib.hid (blk HX4.out HB5n.out)
        have HFN := Lib.hid (bd_nil HF.out)
        obtain ⟨o0, o1, o2, o3, o4, o5, o6⟩ := cells7b HY5.out
        have yl : w4.heap.size < (w4.alloc (.cells #[.slice V1.Pt V1.nt V1.ct, .slice V1.Pf V1.nf V1.cf, .int .i64 E.tables, .int .i64 E.mems, .slice V1.Pg V1.ng V1.cg, .slice V1.Pl V1.nl V1.cl, .slice none 0 0] 45)).heap.size := lt_of_heap HY5.out
        go_wp2_with fail
        generalize w4.alloc (.cells #[.slice V1.Pt V1.nt V1.ct, .slice V1.Pf V1.nf V1.cf, .int .i64 E.tables, .int .i64 E.mems, .slice V1.Pg V1.ng V1.cg, .slice V1.Pl V1.nl V1.cl, .slice none 0 0] 45) = w5 at *
        obtain ⟨y, hy⟩ : ∃ y, w4.heap.size = y := ⟨_, rfl⟩
        rw [hy] at HY5
        simp only [hy]
        clear o0 o1 o2 o3 o4 o5 o6 yl HB5n HB4 HX4 hy
        refine (body_any (V := { V1 with Pr := none, nr := 0, cr := 0 }) (E := withR E []) HV5.out (HR.out.keep HB5.out) (HK.out.keep HB5.out) (HA.out.keep HB5.out) HFN.out HN.out (by omega)).mono ?_
        rintro e w6 ⟨rfl, hb⟩
        have HB6 := Lib.hid (HB5.out.trans (hb.mono HB5.out.size))
        have HX6 := Lib.hid (blk HX5.out hb)
        have HY6 := Lib.hid (blk HY5.out hb)
        have HV6 := Lib.hid (HV5.out.keep hb)
        clear hb HB5 HX5 HY5 HV5
        obtain ⟨b1, hb1⟩ : ∃ b, bodyR (withR E []) (l.map (·.1)) = b := ⟨_, rfl⟩
        rw [hb1]
        by_cases hz1 : b1 = 0
        · subst hz1
          have HBR1 := Lib.hid hb1
          clear hb1
          obtain ⟨o0, o1, o2, o3, o4, o5, o6⟩ := cells7b HY6.out
          have yl : y < w6.heap.size := lt_of_heap HY6.out
          go_wp2_with fail
          clear o0 o1 o2 o3 o4 o5 o6 yl
          refine (body_any (V := { V1 with Pr := none, nr := 0, cr := 0 }) (E := withR E []) HV6.out (HR2.out.keep HB6.out) (HK.out.keep HB6.out) (HA.out.keep HB6.out) HFN.out HN2.out (by omega)).mono ?_
          rintro e w7 ⟨rfl, hb⟩
          have HB7 := Lib.hid (HB6.out.trans (hb.mono HB6.out.size))
          have HX7 := Lib.hid (blk HX6.out hb)
          have HY7 := Lib.hid (blk HY6.out hb)
          have HV7 := Lib.hid (HV6.out.keep hb)
          clear hb HB6 HX6 HY6 HV6
          obtain ⟨b2, hb2⟩ : ∃ b, bodyR (withR E []) (m.map (·.1)) = b := ⟨_, rfl⟩
          rw [hb2]
          by_cases hz2 : b2 = 0
          · subst hz2
            have HBR2 := Lib.hid hb2
            clear hb2
            have HE0 := Lib.hid (none_own w7)
            have HB7a := Lib.hid (HB7.out.alloc HB7.out.size (.cells #[] 33))
            have HLO : Hid (W.heap.size ≤ w7.heap.size) := HB7.out.size
            have HLa : Hid (w7.heap.size ≤ (w7.alloc (.cells #[] 33)).heap.size) := by show _ ≤ _; rw [size_new]; omega
            have HBa := Lib.hid (below_new w7 (.cells #[] 33))
            go_wp2_with (at_builtin; refine Bod.wp_rows _ rfl (.tmp 44) (.tmp 45) rfl w7.heap.size _ [] l rfl HE0.out A c (by rw [HN.out]; rfl) (by rw [HN.out]; exact HR.out.keep HB7a.out) (by have := HN.out; simp; omega) HLa.out ?_; intro v8 w8 ho8 hb8; have HO8 := Lib.hid ho8; have HB8 := Lib.hid (HB7a.out.trans (hb8.mono HLO.out)); have HC8 := Lib.hid (HBa.out.trans hb8); have HL8 : Hid (w7.heap.size ≤ w8.heap.size) := Nat.le_trans HLa.out hb8.size; clear ho8 hb8; go_wp2_with (at_builtin; refine Bod.wp_rows _ rfl (.tmp 46) (.tmp 47) rfl w7.heap.size _ l m rfl HO8.out A2 c2 (by rw [HN2.out]; rfl) (by rw [HN2.out]; exact HR2.out.keep HB8.out) (by have := HN.out; have := HN2.out; omega) HL8.out ?_; intro v9 w9 ho9 hb9; have HO9 := Lib.hid ho9; have HB9 := Lib.hid (HB8.out.trans (hb9.mono HLO.out)); have HC9 := Lib.hid (HC8.out.trans hb9); clear ho9 hb9; have HE1 := Lib.hid (one1_own w9 2); have HB9a := Lib.hid (HB9.out.alloc HB9.out.size (.cells #[.int .i64 2, .int .i64 0, .int .i64 0, .int .u64 0, .slice none 0 0] 33)); have HBb := Lib.hid (below_new w9 (.cells #[.int .i64 2, .int .i64 0, .int .i64 0, .int .u64 0, .slice none 0 0] 33)); have HLO9 : Hid (W.heap.size ≤ w9.heap.size) := HB9.out.size; have HLb : Hid (w9.heap.size ≤ (w9.alloc (.cells #[.int .i64 2, .int .i64 0, .int .i64 0, .int .u64 0, .slice none 0 0] 33)).heap.size) := HBb.out.size; go_wp2_with (at_builtin; refine Bod.wp_rows _ rfl (.tmp 50) (.tmp 51) rfl w9.heap.size _ [one1 2] l rfl HE1.out A c (by rw [HN.out]; rfl) (by rw [HN.out]; exact HR.out.keep HB9a.out) (by have := HN.out; simp; omega) HLb.out ?_; intro v10 w10 ho10 hb10; have HO10 := Lib.hid ho10; have HB10 := Lib.hid (HB9a.out.trans (hb10.mono HLO9.out)); have HC10 := Lib.hid (HBb.out.trans hb10); have HL10 : Hid (w9.heap.size ≤ w10.heap.size) := Nat.le_trans HLb.out hb10.size; clear ho10 hb10; obtain ⟨P10, c10, hv10⟩ := Ins.OwnR.form HO10.out; rw [show ([one1 2] ++ l).length = n + 1 from by rw [List.length_append, HN.out]; simp; omega] at hv10; subst hv10; go_wp2_with (at_builtin; refine Ins.wp_oneR w10 rfl (.tmp 53) (.tmp 55) rfl w9.heap.size _ ([one1 2] ++ l) (one1 11) ⟨_, _, _, rfl⟩ rfl HO10.out rfl (by rw [List.length_append, HN.out]; simp; omega) HL10.out ?_; intro v11 w11 ho11 hb11 hk11; have HO11 := Lib.hid ho11; have HB11 := Lib.hid (HB10.out.trans (hb11.mono HLO9.out)); have HC11 := Lib.hid (HC10.out.trans hb11); clear ho11 hb11 hk11))))
            have HRA : Hid (Ins.InRow w9 v9 (l ++ m)) := Ins.OwnR.row HO9.out fun p hp => by
              rcases List.mem_append.1 hp with hp | hp
              · exact (HR.out.2 p hp).keep HB9.out
              · exact (HR2.out.2 p hp).keep HB9.out
            obtain ⟨P9, c9, hv9⟩ := Ins.OwnR.form HO9.out
            rw [List.length_append, HN.out, HN2.out] at hv9
            subst hv9
            have HRA := Lib.hid (HRA.out.keep HC11.out)
            have HRI : Hid (Ins.InRow w11 v11 ([one1 2] ++ l ++ [one1 11])) := Ins.OwnR.row HO11.out fun p hp => by
              rcases List.mem_append.1 hp with hp | hp
              · rcases List.mem_append.1 hp with hp | hp
                · obtain rfl := List.mem_singleton.1 hp
                  exact up_ok _ _
                · exact (HR.out.2 p hp).keep HB11.out
              · obtain rfl := List.mem_singleton.1 hp
                exact up_ok _ _
            obtain ⟨P11, c11, hv11⟩ := Ins.OwnR.form HO11.out
            have HNI : Hid (([one1 2] ++ l ++ [one1 11]).length = n + 2) := by show _ = _; rw [List.length_append, List.length_append, HN.out]; simp; omega
            rw [HNI.out] at hv11
            subst hv11
            have HY11 := Lib.hid (blk (blk HY7.out HC9.out) HC11.out)
            have HX11 := Lib.hid (blk (blk HX7.out HC9.out) HC11.out)
            have HV11 := Lib.hid ((HV7.out.keep HC9.out).keep HC11.out)
            clear HE0 HB7a HO8 HB8 HC8 HL8 HO9 HE1 HB9a HBb HLb HO10 HB10 HC10 HL10 HO11 HB9 HC9 HC11 HBa HLa HY7 HX7 HV7 HB7 HLO HLO9
            go_loopw [11, 12] (fun r' i' wr => ∃ (b : Bool) (i : Nat), r' = .bool b ∧ i' = .int .i64 (i : Int) ∧ i ≤ n ∧ w11 = wr ∧ (b = false → ∀ j p, j < i → l[j]? = some p → p.1.op < 12 ∨ 15 < p.1.op)) (fun _ i' _ => n - (intOf i').toNat)
            case atStart => exact ⟨false, 0, by rfl, by go_num, Nat.zero_le _, rfl, fun _ j p hj => absurd hj (Nat.not_lt_zero _)⟩
            case round =>
              obtain ⟨b, i, rfl, rfl, hi, rfl, hop⟩ := hrel
              have HOP := Lib.hid hop
              clear hop
              by_cases hlt : i < n
              · have y1 : (0 : Int) ≤ (i : Int) := by omega
                have y2 : (i : Int) < (n : Int) := by omega
                have hw3 : IntKind.i64.wrap ((i : Int) + 1) = (i : Int) + 1 := IntWalk.i64_in _ (by omega)
                cases b with
                | true =>
                  go_wp2_with fail
                  all_goals first
                    | exact absurd (by assumption) (undef_ne _)
                    | (go_roundw
                       case rel => exact ⟨true, i + 1, by rfl, by go_num, hlt, by trivial, fun h => by cases h⟩
                       case measure => simp [intOf]; omega)
                | false =>
                  obtain ⟨p, hp⟩ : ∃ p, l[i]? = some p := ⟨_, List.getElem?_eq_getElem (by rw [HN.out]; exact hlt)⟩
                  obtain ⟨g2, off2, hAe, ⟨i0, _⟩, _⟩ := (HR.out.keep HB11.out).at_ hp
                  subst hAe
                  have HP := Lib.hid hp
                  obtain ⟨op, hop⟩ : ∃ op, p.1.op = op := ⟨_, rfl⟩
                  rw [hop] at i0
                  have HPO := Lib.hid hop
                  obtain ⟨q2, hq2⟩ : ∃ q, off2 + i * 5 = q := ⟨_, rfl⟩
                  rw [hq2] at i0
                  clear hp hop
                  have HSTEP : Hid (op < 12 ∨ 15 < op → ∀ j p', j < i + 1 → l[j]? = some p' → p'.1.op < 12 ∨ 15 < p'.1.op) := Lib.hid fun ho j p' hj hp' => by
                    by_cases e : j = i
                    · subst e
                      obtain rfl := Option.some.inj (hp'.symm.trans HP.out)
                      rw [HPO.out]
                      exact ho
                    · exact HOP.out rfl j p' (by omega) hp'
                  by_cases h12 : op < 12
                  · have t12 : decide ((12 : Int) ≤ op) = false := decide_eq_false (by omega)
                    go_wp2_with fail
                    all_goals first
                      | exact absurd (by assumption) (undef_ne _)
                      | (go_roundw
                         case rel => exact ⟨false, i + 1, by rfl, by go_num, hlt, by trivial, fun _ => HSTEP.out (.inl h12)⟩
                         case measure => simp [intOf]; omega)
                  · have t12 : decide ((12 : Int) ≤ op) = true := decide_eq_true (by omega)
                    by_cases h15 : 15 < op
                    · have t15 : decide (op ≤ 15) = false := decide_eq_false (by omega)
                      go_wp2_with fail
                      go_roundw
                      case rel => exact ⟨false, i + 1, by rfl, by go_num, hlt, by trivial, fun _ => HSTEP.out (.inr h15)⟩
                      case measure => simp [intOf]; omega
                    · have t15 : decide (op ≤ 15) = true := decide_eq_true (by omega)
                      go_wp2_with fail
                      go_roundw
                      case rel => exact ⟨true, i + 1, by rfl, by go_num, hlt, by trivial, fun h => by cases h⟩
                      case measure => simp [intOf]; omega
              · obtain rfl : i = n := by omega
                have HE2 := Lib.hid (one1_own w11 0)
                have HBc := Lib.hid (below_new w11 (.cells #[.int .i64 0, .int .i64 0, .int .i64 0, .int .u64 0, .slice none 0 0] 33))
                have HB11a := Lib.hid (HB11.out.alloc HB11.out.size (.cells #[.int .i64 0, .int .i64 0, .int .i64 0, .int .u64 0, .slice none 0 0] 33))
                have HLO11 : Hid (W.heap.size ≤ w11.heap.size) := HB11.out.size
                obtain ⟨a0, a1, a2, a3, a4, a5, a6⟩ := cells7b HX11.out
                go_wp2_with (at_builtin; refine Bod.wp_rows _ rfl (.tmp 81) (.tmp 82) rfl w11.heap.size _ [one1 0] l rfl HE2.out A c (by rw [HN.out]; rfl) (by rw [HN.out]; exact HR.out.keep HB11a.out) (by have := HN.out; simp; omega) HBc.out.size ?_; intro v12 w12 ho12 hb12; have HO12 := Lib.hid ho12; have HB12 := Lib.hid (HB11a.out.trans (hb12.mono HLO11.out)); have HC12 := Lib.hid (HBc.out.trans hb12); clear ho12 hb12; clear a0 a1 a2 a3 a4 a5 a6; obtain ⟨a0, a1, a2, a3, a4, a5, a6⟩ := cells7b (blk HX11.out HC12.out); have xl : x < w12.heap.size := lt_of_heap (blk HX11.out HC12.out))
                have HRD : Hid (Ins.InRow w12 v12 ([one1 0] ++ l)) := Ins.OwnR.row HO12.out fun p hp => by
                  rcases List.mem_append.1 hp with hp | hp
                  · obtain rfl := List.mem_singleton.1 hp
                    exact up_ok _ _
                  · exact (HR.out.2 p hp).keep HB12.out
                obtain ⟨P12, c12, hv12⟩ := Ins.OwnR.form HO12.out
                have HND : Hid (([one1 0] ++ l).length = i + 1) := by show _ = _; rw [List.length_append, HN.out]; simp; omega
                rw [HND.out] at hv12
                subst hv12
                have HRA := Lib.hid (HRA.out.keep HC12.out)
                have HRI := Lib.hid (HRI.out.keep HC12.out)
                have HY12 := Lib.hid (blk HY11.out HC12.out)
                have HV12 := Lib.hid (HV11.out.keep HC12.out)
                clear HE2 HBc HB11a HLO11 HO12 HC12 HY11 HV11 HX11 HB11 a0 a1 a2 a3 a4 a5 a6 xl
                refine (HC.out w12 V E (HE.out.keep HB12.out) HG.out).mono ?_
                rintro e w13 ⟨⟨V2, rfl, hev⟩, hb⟩
                have HB13 := Lib.hid (HB12.out.trans (hb.mono HB12.out.size))
                have HRA := Lib.hid (HRA.out.keep hb)
                have HRI := Lib.hid (HRI.out.keep hb)
                have HRD := Lib.hid (HRD.out.keep hb)
                have HY13 := Lib.hid (blk HY12.out hb)
                have HV13 := Lib.hid (HV12.out.keep hb)
                have HEV2 := Lib.hid hev
                clear hb hev HY12 HV12 HB12
                rw [show evV V2 E = (.agg #[.slice V2.Pt V2.nt V2.ct, .slice V2.Pf V2.nf V2.cf, .int .i64 E.tables, .int .i64 E.mems, .slice V2.Pg V2.ng V2.cg, .slice V2.Pl V2.nl V2.cl, .slice V2.Pr V2.nr V2.cr]) from rfl]
                have HBN := Lib.hid (below2 w13 (.cells #[.slice V2.Pt V2.nt V2.ct, .slice V2.Pf V2.nf V2.cf, .int .i64 E.tables, .int .i64 E.mems, .slice V2.Pg V2.ng V2.cg, .slice V2.Pl V2.nl V2.cl, .slice (some ⟨w13.heap.size + 1, 0, none⟩) 1 1] 45) (.cells #[.int .u8 126] 5))
                have HZ14 := Lib.hid (blk (heap_new w13 (.cells #[.slice V2.Pt V2.nt V2.ct, .slice V2.Pf V2.nf V2.cf, .int .i64 E.tables, .int .i64 E.mems, .slice V2.Pg V2.ng V2.cg, .slice V2.Pl V2.nl V2.cl, .slice (some ⟨w13.heap.size + 1, 0, none⟩) 1 1] 45)) (below_new (w13.alloc (.cells #[.slice V2.Pt V2.nt V2.ct, .slice V2.Pf V2.nf V2.cf, .int .i64 E.tables, .int .i64 E.mems, .slice V2.Pg V2.ng V2.cg, .slice V2.Pl V2.nl V2.cl, .slice (some ⟨w13.heap.size + 1, 0, none⟩) 1 1] 45)) (.cells #[.int .u8 126] 5)))
                have HZB := Lib.hid (heap_new (w13.alloc (.cells #[.slice V2.Pt V2.nt V2.ct, .slice V2.Pf V2.nf V2.cf, .int .i64 E.tables, .int .i64 E.mems, .slice V2.Pg V2.ng V2.cg, .slice V2.Pl V2.nl V2.cl, .slice (some ⟨w13.heap.size + 1, 0, none⟩) 1 1] 45)) (.cells #[.int .u8 126] 5))
                rw [size_new] at HZB
                have HB14 := Lib.hid (HB13.out.trans (HBN.out.mono HB13.out.size))
                have HRA := Lib.hid (HRA.out.keep HBN.out)
                have HRI := Lib.hid (HRI.out.keep HBN.out)
                have HRD := Lib.hid (HRD.out.keep HBN.out)
                have HY14 := Lib.hid (blk HY13.out HBN.out)
                have HV14 := Lib.hid (HV13.out.keep HBN.out)
                have HV2 := Lib.hid (env_wit (HEV2.out.keep HBN.out) (row_blk2 HZB.out (by omega)))
                obtain ⟨o0, o1, o2, o3, o4, o5, o6⟩ := cells7b HY14.out
                have yl : y < ((w13.alloc (.cells #[.slice V2.Pt V2.nt V2.ct, .slice V2.Pf V2.nf V2.cf, .int .i64 E.tables, .int .i64 E.mems, .slice V2.Pg V2.ng V2.cg, .slice V2.Pl V2.nl V2.cl, .slice (some ⟨w13.heap.size + 1, 0, none⟩) 1 1] 45)).alloc (.cells #[.int .u8 126] 5)).heap.size := lt_of_heap HY14.out
                clear HBN HZB HB13 HY13 HV13 HEV2
                go_wp2_with fail
                clear o0 o1 o2 o3 o4 o5 o6 yl
                obtain ⟨z, hz0⟩ : ∃ z, w13.heap.size = z := ⟨_, rfl⟩
                generalize (w13.alloc (.cells #[.slice V2.Pt V2.nt V2.ct, .slice V2.Pf V2.nf V2.cf, .int .i64 E.tables, .int .i64 E.mems, .slice V2.Pg V2.ng V2.cg, .slice V2.Pl V2.nl V2.cl, .slice (some ⟨w13.heap.size + 1, 0, none⟩) 1 1] 45)).alloc (.cells #[.int .u8 126] 5) = w14 at *
                rw [hz0] at HZ14 HV2
                simp only [hz0]
                have HNA : Hid ((l ++ m).length = i + n2) := by show _ = _; rw [List.length_append, HN.out, HN2.out]
                have HBA : Hid (bodyR (withR E []) ((l ++ m).map (·.1)) = 0) := by show _ = _; rw [List.map_append]; exact more_all rfl HBR1.out HBR2.out
                refine (body_any (V := { V1 with Pr := none, nr := 0, cr := 0 }) (E := withR E []) HV14.out HRA.out (HK.out.keep HB14.out) (HA.out.keep HB14.out) HFN.out HNA.out (by omega)).mono ?_
                rintro e w15 ⟨rfl, hb⟩
                rw [HBA.out]
                have HB15 := Lib.hid (HB14.out.trans (hb.mono HB14.out.size))
                have HRI := Lib.hid (HRI.out.keep hb)
                have HRD := Lib.hid (HRD.out.keep hb)
                have HY15 := Lib.hid (blk HY14.out hb)
                have HZ15 := Lib.hid (blk HZ14.out hb)
                have HV15 := Lib.hid (HV14.out.keep hb)
                have HV25 := Lib.hid (HV2.out.keep hb)
                clear hb HB14 HRA HY14 HZ14 HV14 HV2
                cases b with
                | true =>
                  go_wp2_with fail
                  all_goals first
                    | exact absurd (by assumption) (undef_ne _)
                    | exact bodyPost_ret (v := .bool true) (by simp [results, Tryz.results6, go_sem]) rfl ⟨rfl, by first | exact HB15.out | (rw [← hx]; exact HB15.out)⟩
                | false =>
                  have hbr : ∀ p ∈ l.map (·.1), p.op < 12 ∨ 15 < p.op := fun p hp => by
                    obtain ⟨q, hq, rfl⟩ := List.mem_map.1 hp
                    obtain ⟨j, hj⟩ := List.getElem?_of_mem hq
                    exact HOP.out rfl j q (by rw [← HN.out]; exact (List.getElem?_eq_some_iff.1 hj).1) hj
                  have HBI : Hid (bodyR (withR E []) (([one1 2] ++ l ++ [one1 11]).map (·.1)) = 0) := by show _ = _; rw [List.map_append, List.map_append]; exact more_in rfl HBR1.out hbr
                  have HBD : Hid (bodyR (withR E [126]) (([one1 0] ++ l).map (·.1)) = 0) := by show _ = _; rw [List.map_append]; exact more_dead (E := withR E []) rfl HBR1.out hbr
                  have HF6 := Lib.hid (bd_126 HF.out)
                  clear hbr
                  obtain ⟨o0, o1, o2, o3, o4, o5, o6⟩ := cells7b HY15.out
                  have yl : y < w15.heap.size := lt_of_heap HY15.out
                  go_wp2_with fail
                  clear o0 o1 o2 o3 o4 o5 o6 yl
                  refine (body_any (V := { V1 with Pr := none, nr := 0, cr := 0 }) (E := withR E []) HV15.out HRI.out (HK.out.keep HB15.out) (HA.out.keep HB15.out) HFN.out HNI.out (by omega)).mono ?_
                  rintro e w16 ⟨rfl, hb⟩
                  rw [HBI.out]
                  have HB16 := Lib.hid (HB15.out.trans (hb.mono HB15.out.size))
                  have HRD := Lib.hid (HRD.out.keep hb)
                  have HZ16 := Lib.hid (blk HZ15.out hb)
                  have HV26 := Lib.hid (HV25.out.keep hb)
                  clear hb HB15 HRI HY15 HZ15 HV15 HV25
                  obtain ⟨o0, o1, o2, o3, o4, o5, o6⟩ := cells7b HZ16.out
                  have zl : z < w16.heap.size := lt_of_heap HZ16.out
                  go_wp2_with fail
                  clear o0 o1 o2 o3 o4 o5 o6 zl
                  refine (body_any (V := { V2 with Pr := some ⟨z + 1, 0, none⟩, nr := 1, cr := 1 }) (E := withR E [126]) HV26.out HRD.out (HK.out.keep HB16.out) (HA.out.keep HB16.out) HF6.out HND.out (by omega)).mono ?_
                  rintro e w17 ⟨rfl, hb⟩
                  rw [HBD.out]
                  have HB17 := Lib.hid (HB16.out.trans (hb.mono HB16.out.size))
                  clear hb
                  go_wp2_with fail
                  exact bodyPost_ret (v := .bool true) (by simp [results, Tryz.results6, go_sem]) rfl ⟨rfl, by first | exact HB17.out | (rw [← hx]; exact HB17.out)⟩
          · have hzb : (b2 == 0) = false := by simpa using hz2
            have hzc : (b2 != 0) = true := by simpa using hz2
            clear hb2 hz2
            go_wp2_with fail
            exact bodyPost_ret (v := .bool true) (by simp [results, Tryz.results6, go_sem]) rfl ⟨rfl, by first | exact HB7.out | (rw [← hx]; exact HB7.out)⟩
        · have hzb : (b1 == 0) = false := by simpa using hz1
          have hzc : (b1 != 0) = true := by simpa using hz1
          obtain ⟨o0, o1, o2, o3, o4, o5, o6⟩ := cells7b HY6.out
          have yl : y < w6.heap.size := lt_of_heap HY6.out
          clear hb1 hz1
          go_wp2_with fail
          exact bodyPost_ret (v := .bool true) (by simp [results, Tryz.results6, go_sem]) rfl ⟨rfl, by first | exact HB6.out | (rw [← hx]; exact HB6.out)⟩
end Go.Proofs.YtlappkflnlbfcaaGreatDoor.Chk
