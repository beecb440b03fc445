/- The nest's take, walked. -/
import Derived.Test.YtdmidagcdhhlhaaDoorBodTurns
import Derived.Deep.RegionLaw
import Derived.Deep.CutRange
namespace Go.Proofs.YtdmidagcdhhlhaaDoor.Bod
open Go.RowKit Ints Typ Ins
set_option maxRecDepth 100000
set_option maxHeartbeats 2000000
set_option linter.unusedVariables false
theorem kd_opn (op : Int) : (kd op == 2) = opn op := by
  rw [Bool.eq_iff_iff]
  unfold kd opn
  simp only [beq_iff_eq, Bool.and_eq_true, decide_eq_true_eq]
  constructor
  · intro h
    by_cases h1 : 2 ≤ op ∧ op ≤ 4
    · exact h1
    · rw [if_neg h1] at h
      exfalso
      repeat (first | (rw [if_pos (by assumption)] at h; omega) | omega | (split at h))
  · intro h
    rw [if_pos h]
/-- 'append(s, y)' on whole numbers of the call's own, as a step of a region that draws its order: and where the row lies. -/
theorem step_J {ops : Array Oper} {o : Oper} {a : Act} {K : Act → World → Prop} {Q : Exit → Act → World → Prop} {E : Prop} (w : World) (hgd : o.guard = none) (s x : Operand)
    (ho : o.op = .call { callee := .builtin .append, args := #[s, x], argTypes := #[44, 44] }) (B : Nat) (v : Value) (done : List Int) (y : Int) (hs : a.eval s = v) (hown : OwnI w B v done)
    (hx : a.eval x = .slice (some ⟨w.heap.size, 0, none⟩) 1 1) (hlen : done.length ≤ 10000000) (hB : B ≤ w.heap.size)
    (h : ∀ v' w', OwnI w' B v' (done ++ [y]) → Below B w w' → Chg w w' v.ownBlock → (v'.ownBlock = v.ownBlock ∨ ∃ g, v'.ownBlock = some g ∧ w.heap.size ≤ g) → K (a.put o.dst v') w') : if Region.wanted o (yielded ops a.tmps) = true then Oper.wp Tryd.prog o a (w.alloc (.cells #[.int .i64 y] 3)) K Q else E := by
  have hw : Region.wanted o (yielded ops a.tmps) = true := by simp [Region.wanted, hgd]
  rw [if_pos hw]
  obtain ⟨v', w', hr, h1, hg, h3⟩ := run_oneI (w.alloc (.cells #[.int .i64 y] 3)) o.type B v done y (World.ownsRow.alloc hown _) ⟨w.heap.size, 0, none⟩ (by rw [Typ.add_plain]; simp) hlen (by simp; omega)
  unfold Oper.wp
  simp only [execOp, ho, resolve, invoke, builtin, Sem.run_bind, Sem.run_pure, Result.andThen_ok, List.map_toArray, List.map_cons, List.map_nil, hs, hx, hr]
  refine h v' w' h1 (((Below.refl _ _).alloc hB _).grown hg (by simp; omega) (fun k hk => (World.ownsRow.lt hown k hk).1)) (fun k hk hne => (hg.block k (by simp; omega) hne).trans (((Below.refl w.heap.size w).alloc (Nat.le_refl _) _).block k hk)) ?_
  rcases h3 with h3 | ⟨g, h3, h4⟩
  · exact .inl h3
  · exact .inr ⟨g, h3, by simp at h4; omega⟩
theorem ptake_any (op : Int) {w0 w : World} {g : Nat} {vM vD vS : Value} {n : Nst} (hT : KTab w0) (hb : Below w0.heap.size w0 w) (h : NAt w w0.heap.size g vM vD vS n) (hok : NOk n) (hl : n.M.length ≤ 100000) (hs : n.S.length ≤ 90000) :
    Calls Tryd.prog 32 #[.pointer (some ⟨g, 0, none⟩), .int .i64 op] w (NTold w0.heap.size g vD (tk op n) w) := by
  have H := Lib.hid h
  have HT := Lib.hid hT
  have HB0 := Lib.hid hb
  have HOK := Lib.hid hok
  have HS := Lib.hid hs
  obtain ⟨m, hm⟩ : ∃ m, n.M.length = m := ⟨_, rfl⟩
  have HML := Lib.hid hm
  obtain ⟨PM, cM, hv⟩ := OwnP.form h.m
  rw [hm] at hv hl
  have HL := Lib.hid hl
  subst hv
  obtain ⟨kD, hkD⟩ : ∃ k, n.D.length = k := ⟨_, rfl⟩
  have HDL := Lib.hid (show kD = m from by rw [← hkD, ← hm]; exact hok.len)
  obtain ⟨PD, cD, hvD⟩ := OwnI.form h.d
  rw [hkD] at hvD
  have HKD := Lib.hid hkD
  clear hkD
  subst hvD
  have HM := Lib.hid h.m
  obtain ⟨c0, c1, c2, f0, f1, f2⟩ := h.cells
  clear hT hb h hok hs hm hl c1 c2 f1 f2
  go_enter Tryd.func32, Tryd.ntmps32
  go_wp2_with (at_builtin; refine wp_oneP 52 26 Tryd.underlying26 pmatch_info w rfl (.tmp 15) (.tmp 17) rfl w0.heap.size _ n.M (-1, -1) rfl HM.out rfl (by have := HL.out; have := HML.out; omega) HB0.out.size ?_; intro v1 w1 ho1 hb1 hc1; obtain ⟨P1, d1, hv1⟩ := OwnP.form ho1; rw [show (n.M ++ [((-1 : Int), (-1 : Int))]).length = m + 1 from by simp [HML.out]] at hv1; subst hv1; obtain ⟨N1, F1, B1, cc1, ff1⟩ := H.out.pushM ho1 hb1 hc1; have HN1 := Lib.hid N1; have HF1 := Lib.hid F1; have HB1 := Lib.hid B1; clear N1 F1 B1 ho1 hb1 hc1 c0 f0)
  generalize (w1.setCell ⟨g, 0, none⟩ (.slice P1 (m + 1) d1)) = w2 at *
  go_cut [] from 11 to 32 (fun wx => ∃ vD', NAt wx w0.heap.size g (.slice P1 (m + 1) d1) vD' vS (tk1 op n) ∧ NFr w (.slice PD kD cD) vD' wx ∧ Below w0.heap.size w wx)
  case first =>
    have HN2 := Lib.hid (HN1.out.keep (drewB w2))
    have HF2 := Lib.hid (HF1.out.trans (NFr.below (.slice PD kD cD) (drewB w2)))
    have HB2 := Lib.hid (HB1.out.trans (drewB' w2 (Nat.le_trans HN1.out.base (Nat.le_of_lt HN1.out.lt))))
    obtain ⟨x0, x1, x2, y0, y1, y2⟩ := HN2.out.cells
    clear x0 x2 y0 y2
    have x1A : (w2.alloc (.cells #[.int .i64 (depO op ⟨n.M ++ [(-1, -1)], n.D, n.S⟩)] 3)).cell? ⟨g, 1, none⟩ = some (.slice PD kD cD) := Lib.cell?_alloc_some _ (show w2.cell? ⟨g, 1, none⟩ = _ from x1)
    go_region_law (first | (go_simp; go_at_call 49; refine (pdepth_any op HN2.out (by have := HS.out; simp only; omega)).mono ?_; rintro en w6 ⟨rfl, rfl⟩) | (refine step_J w2.drew rfl (.tmp 25) (.tmp 29) rfl w0.heap.size _ n.D (depO op n) (by rfl) HN2.out.d (by rfl) (by have := HL.out; have := HDL.out; have := HKD.out; omega) (Nat.le_trans HN1.out.base (Nat.le_of_lt HN1.out.lt)) ?_; intro v4 w4 ho4 hb4 hc4 hn4; obtain ⟨P4, d4, hv4⟩ := OwnI.form ho4; rw [show (n.D ++ [depO op n]).length = kD + 1 from by simp [HKD.out]] at hv4; subst hv4; obtain ⟨N4, F4, B4, cc4, ff4⟩ := HN2.out.pushD ho4 hb4 hc4 hn4; have HN4 := Lib.hid N4; have HF4 := Lib.hid F4; have HB4 := Lib.hid B4; clear N4 F4 B4 ho4 hb4 hc4 hn4))
    all_goals (
      go_wp2_with fail
      go_meet
      case rel => exact ⟨_, HN4.out, HF2.out.trans HF4.out, HB2.out.trans HB4.out⟩)
  case rest =>
    obtain ⟨vD', hN, hF, hB⟩ := hcut
    have HN := Lib.hid hN
    have HF := Lib.hid hF
    have HB := Lib.hid hB
    have HKW := Lib.hid (HT.out.keep (HB0.out.trans hB))
    have HOK1 := Lib.hid (HOK.out.one op)
    have HS1 : Hid ((tk1 op n).S.length ≤ 100000) := by have := HS.out; show n.S.length ≤ 100000; omega
    have HLL : Hid (w0.heap.size ≤ wc.heap.size) := Nat.le_trans hN.base (Nat.le_of_lt hN.lt)
    clear hN hF hB
    go_wp2_with fail
    refine (kind_any op wc HKW.out).mono ?_
    rintro e w' ⟨rfl, rfl⟩
    have hkd := kd_opn op
    cases ho : opn op with
    | true =>
      rw [ho] at hkd
      have HTK : Hid (tk op n = some ⟨(tk1 op n).M, (tk1 op n).D, n.S ++ [(op, n.M.length)]⟩) := by
        show _ = _
        unfold tk
        rw [if_pos ho]
      obtain ⟨PS, cS, hvS⟩ := HN.out.stk
      obtain ⟨kS, hkS⟩ : ∃ k, (tk1 op n).S.length = k := ⟨_, rfl⟩
      rw [hkS] at hvS
      have HKS := Lib.hid hkS
      clear hkS ho
      subst hvS
      obtain ⟨x0, x1, x2, y0, y1, y2⟩ := HN.out.cells
      clear x0 x1 y0 y1
      go_wp2_with (at_builtin; refine wp_oneP 71 54 Tryd.underlying54 pbegun_info wc rfl (.tmp 41) (.tmp 45) rfl w0.heap.size _ (prs (tk1 op n).S) (op, (m : Int)) rfl HN.out.s rfl (by have := HS1.out; rw [prs_len]; omega) HLL.out ?_; intro v5 w5 ho5 hb5 hc5; obtain ⟨P5, d5, hv5⟩ := OwnP.form ho5; rw [show (prs (tk1 op n).S ++ [(op, (m : Int))]).length = kS + 1 from by rw [List.length_append, prs_len, HKS.out]; rfl] at hv5; subst hv5; rw [show prs (tk1 op n).S ++ [(op, (m : Int))] = prs (n.S ++ [(op, n.M.length)]) from by rw [HML.out]; simp [prs, tk1]] at ho5; obtain ⟨N5, F5, B5, cc5, ff5⟩ := HN.out.setS ho5 hb5 hc5; have HN5 := Lib.hid N5; have HF5 := Lib.hid F5; have HB5 := Lib.hid B5; clear N5 F5 B5 ho5 hb5 hc5)
      refine bodyPost_ret (v := .bool true) (by simp [results, Tryd.results32, go_sem]) rfl ⟨_, _, _, _, by rw [HTK.out]; rfl, fun m hm => ?_, HN5.out, HF.out.trans HF5.out, HB.out.trans HB5.out⟩
      rw [HTK.out] at hm
      exact Option.some.inj hm
    | false =>
      rw [ho] at hkd
      have hno : ¬ opn op = true := by rw [ho]; decide
      cases h5 : (op == 5) with
      | true =>
        have e5 : op = 5 := by simpa using h5
        have HTK : Hid (tk op n = tkTurn m (tk1 op n)) := by
          show _ = _
          unfold tk
          rw [if_neg hno, if_pos e5, HML.out]
        clear ho hno e5
        go_wp2_with fail
        refine (pturn_any m HN.out HOK1.out HS1.out).mono ?_
        rintro e w' ⟨vM5, vD5, vS5, n5, rfl, hr5, N5, F5, B5⟩
        go_wp2_with fail
        exact bodyPost_ret (v := .bool (tkTurn m (tk1 op n)).isSome) (by simp [results, Tryd.results32, go_sem]) rfl ⟨_, _, _, _, by rw [HTK.out], (by rw [HTK.out]; exact hr5), N5, HF.out.trans F5, HB.out.trans B5⟩
      | false =>
        have e5 : op ≠ 5 := by simpa using h5
        cases h11 : (op == 11) with
        | true =>
          have e11 : op = 11 := by simpa using h11
          have HTK : Hid (tk op n = tkEnd m (tk1 op n)) := by
            show _ = _
            unfold tk
            rw [if_neg hno, if_neg e5, if_pos e11, HML.out]
          clear ho hno e5 e11
          go_wp2_with fail
          refine (pend_any m HN.out HOK1.out HS1.out).mono ?_
          rintro e w' ⟨vM5, vD5, vS5, n5, rfl, hr5, N5, F5, B5⟩
          go_wp2_with fail
          exact bodyPost_ret (v := .bool (tkEnd m (tk1 op n)).isSome) (by simp [results, Tryd.results32, go_sem]) rfl ⟨_, _, _, _, by rw [HTK.out], (by rw [HTK.out]; exact hr5), N5, HF.out.trans F5, HB.out.trans B5⟩
        | false =>
          have e11 : op ≠ 11 := by simpa using h11
          have HTK : Hid (tk op n = some (tk1 op n)) := by
            show _ = _
            unfold tk
            rw [if_neg hno, if_neg e5, if_neg e11]
          clear ho hno e5 e11
          go_wp2_with fail
          exact bodyPost_ret (v := .bool true) (by simp [results, Tryd.results32, go_sem]) rfl ⟨_, _, _, _, by rw [HTK.out]; rfl, (by rw [HTK.out]; exact fun m hm => Option.some.inj hm), HN.out, HF.out, HB.out⟩
end Go.Proofs.YtdmidagcdhhlhaaDoor.Bod
