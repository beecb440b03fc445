/- StackApart: what is made of a stack leaves the stack as it was: walked (gen_apart9.py). -/
import Derived.Test.YtdafldahmojpdaaStkCopied
namespace Go.Proofs.Ytdafldahmojpdaa.Stk
open Go.RowKit Row9
set_option maxRecDepth 100000
set_option maxHeartbeats 8000000
set_option linter.unusedVariables false
theorem box_ne {W : World} {y : Nat} {A A' : Option Addr} {n c n' c' : Nat} {t : TypeId} (h : W.heap[y]? = some (.cells #[.slice A n c, .slice A' n' c'] t (0, 0))) (o : Nat) {k : IntKind} {x : Int} : W.cell? ⟨y, o, none⟩ ≠ some (.int k x) := by
  rw [(cells_at h o).1]
  rcases o with _ | _ | o <;> simp
theorem row_box {α : Type} {T : El α} {W : World} {y i : Nat} {u v : Value} {l : List α} {A A' : Option Addr} {n c n' c' : Nat} {t : TypeId} (hT : ∀ a, ∃ k x, (T.enc a)[0]? = some (.int k x)) (hok : ∀ p, T.ok W p → T.ok (W.setCell ⟨y, i, none⟩ u) p) (h : Row T W v l)
    (hy : W.heap[y]? = some (.cells #[.slice A n c, .slice A' n' c'] t (0, 0))) : Row T (W.setCell ⟨y, i, none⟩ u) v l := by
  obtain ⟨⟨B, d, h1, h2, h3, h4⟩, h5⟩ := h
  refine ⟨⟨B, d, h1, h2, h3, fun h0 => ?_⟩, fun p hp => hok p (h5 p hp)⟩
  obtain ⟨g, off, e, hg, hB⟩ := h4 h0
  have hgy : y ≠ g := by
    intro e
    subst e
    obtain ⟨p, hp⟩ : ∃ p, l[0]? = some p := by
      cases l with
      | nil => exact absurd rfl h0
      | cons p l => exact ⟨p, rfl⟩
    obtain ⟨k, x, hx⟩ := hT p
    exact box_ne hy _ (hB 0 p hp 0 _ hx)
  refine ⟨g, off, e, by rw [set_size]; exact hg, fun j p hj i' u' hu => ?_⟩
  rw [World.cell?_setCell_other _ _ _ _ (by intro e; exact hgy (congrArg Addr.block e))]
  exact hB j p hj i' u' hu
theorem StIs.set_box {W : World} {y i : Nat} {u v : Value} {s : Stk} {A A' : Option Addr} {n c n' c' : Nat} {t : TypeId} (h : StIs elD W v s) (hy : W.heap[y]? = some (.cells #[.slice A n c, .slice A' n' c'] t (0, 0))) : StIs elD (W.setCell ⟨y, i, none⟩ u) v s := by
  obtain ⟨a, b, l, h1, h2, h3, h4⟩ := h
  have hb : ∀ {v : Value} {l : List Int}, Row elB W v l → Row elB (W.setCell ⟨y, i, none⟩ u) v l := fun h => row_box (T := elB) (fun a => ⟨.u8, a, rfl⟩) (fun p hp => hp) h hy
  exact ⟨a, b, l, h1, hb h2, row_box (T := elD) (fun a => ⟨.i64, a.1.op, rfl⟩) (fun p hp => ⟨hb hp.1, hp.2⟩) h3 hy, h4⟩
theorem run_atA (g off k n c : Nat) (W : World) (h1 : (0 : Int) ≤ (k : Int)) (h2 : (k : Int) < (n : Int)) : (Instr.indexAt 61 (.slice (some ⟨g, off, none⟩) n c) (.int .i64 (k : Int))).run Try.prog W = .ok (.pointer (some ⟨g, off + k * 3, none⟩)) W := by go_simp
theorem run_fA1 (g o : Nat) (W : World) : (Instr.fieldAt 69 (.pointer (some ⟨g, o, none⟩)) 1).run Try.prog W = .ok (.pointer (some ⟨g, o + 1, none⟩)) W := by go_simp
theorem run_fA2 (g o : Nat) (W : World) : (Instr.fieldAt 69 (.pointer (some ⟨g, o, none⟩)) 2).run Try.prog W = .ok (.pointer (some ⟨g, o + 2, none⟩)) W := by go_simp
theorem ld_stD {W : World} {x n c m d : Nat} {P Q : Option Addr} {t : TypeId} (h : W.heap[x]? = some (.cells #[.slice P n c, .slice Q m d] t (0, 0))) : (Instr.loadAt 25 (.pointer (some ⟨x, 0, none⟩))).run Try.prog W = .ok (.agg #[.slice P n c, .slice Q m d]) W := by
  obtain ⟨h0, h1⟩ := cells2 h
  go_simp
theorem apart_any {v u : Value} {l mm : List ActV} {w : World} (h : Row elA w v l) (hu : Row elA w u mm) : Calls Try.prog 8 #[v, u] w (Yes w) := by
  have HH := Lib.hid h
  have HU := Lib.hid hu
  have HA := Lib.hid (awake_any w)
  obtain ⟨A, c, rfl, _⟩ := h.form
  obtain ⟨Am, cm, rfl, _⟩ := hu.form
  obtain ⟨n, hn⟩ : ∃ n, l.length = n := ⟨_, rfl⟩
  obtain ⟨nm, hnm⟩ : ∃ n, mm.length = n := ⟨_, rfl⟩
  rw [hn] at HH ⊢
  rw [hnm] at HU ⊢
  have HNM := Lib.hid hnm
  clear h hu hn hnm
  go_enter Try.func8, Try.ntmps8
  go_wp2_with fail
  refine HA.out.mono ?_
  rintro e w1 ⟨rfl, hb⟩
  have HB1 := Lib.hid hb
  have HH1 := Lib.hid (HH.out.keep hb)
  have HU1 := Lib.hid (HU.out.keep hb)
  clear hb HA
  go_wp2_with fail
  refine (few_any HH1.out).mono ?_
  rintro e w2 ⟨rfl, rfl⟩
  cases hf : fewL (l.map (·.1)) with
  | false =>
    go_wp2_with fail
    exact bodyPost_ret (v := .bool true) (by simp [results, Try.results8, go_sem]) rfl ⟨rfl, HB1.out⟩
  | true =>
    have HF := Lib.hid hf
    clear hf
    go_wp2_with fail
    refine (few_any HU1.out).mono ?_
    rintro e w2' ⟨rfl, rfl⟩
    cases hfm : fewL (mm.map (·.1)) with
    | false =>
      go_wp2_with fail
      exact bodyPost_ret (v := .bool true) (by simp [results, Try.results8, go_sem]) rfl ⟨rfl, HB1.out⟩
    | true =>
      have HFM : Hid (nm ≤ 100 ∧ ∀ p ∈ mm, p.1.L.length ≤ 20) := by
        have hf := hfm
        unfold fewL at hf
        simp only [Bool.and_eq_true, decide_eq_true_eq, List.all_eq_true, List.length_map, HNM.out] at hf
        exact ⟨hf.1, fun p hp => hf.2 p.1 (List.mem_map_of_mem hp)⟩
      have HG := Lib.hid (grown_any HH1.out HF.out)
      have HLE := Lib.hid (grow_le HF.out)
      obtain ⟨s, hs⟩ : ∃ s, grow (l.map (·.1)) = s := ⟨_, rfl⟩
      rw [hs] at HG HLE
      clear hs hfm
      go_wp2_with fail
      refine HG.out.mono ?_
      rintro e w3 hen
      obtain ⟨P, np, cp, Q, m, d, rfl, hv, hb⟩ := hen.at_
      have HB3 := Lib.hid (HB1.out.trans (hb.mono HB1.out.size))
      have HB4 := Lib.hid (HB3.out.trans ((below_new w3 (.cells #[.slice P np cp, .slice Q m d] 30)).mono HB3.out.size))
      have HV := Lib.hid (hv.keep (below_new w3 (.cells #[.slice P np cp, .slice Q m d] 30)))
      have HX := Lib.hid (heap_new w3 (.cells #[.slice P np cp, .slice Q m d] 30))
      clear hen hv hb HG
      go_wp2_with fail
      generalize w3.alloc (.cells #[.slice P np cp, .slice Q m d] 30) = w4 at *
      obtain ⟨x, hx⟩ : ∃ x, w3.heap.size = x := ⟨_, rfl⟩
      rw [hx] at HX
      simp only [hx]
      clear hx
      have HVL : Hid (s.vals.length ≤ 400000) := Lib.hid (by have := HLE.out.1; omega)
      have HCL : Hid (s.cs.length ≤ 400000) := Lib.hid (by have := HLE.out.2; omega)
      refine (theirs_any HV.out HCL.out).mono ?_
      rintro e w5 ⟨⟨P5, n5, c5, Q5, m5, d5, rfl, hv⟩, hb⟩
      have HK6 := Lib.hid (hb.trans ((below_new w5 (.cells #[.slice P5 n5 c5, .slice Q5 m5 d5] 25)).mono hb.size))
      have HD6 := Lib.hid (hv.keep (below_new w5 (.cells #[.slice P5 n5 c5, .slice Q5 m5 d5] 25)))
      have HY6 := Lib.hid (heap_new w5 (.cells #[.slice P5 n5 c5, .slice Q5 m5 d5] 25))
      have HY5 : Hid (w4.heap.size ≤ w5.heap.size) := hb.size
      clear hv hb
      go_wp2_with fail
      generalize w5.alloc (.cells #[.slice P5 n5 c5, .slice Q5 m5 d5] 25) = w6 at *
      obtain ⟨y, hy⟩ : ∃ y, w5.heap.size = y := ⟨_, rfl⟩
      rw [hy] at HY6 HY5
      simp only [hy]
      clear hy
      refine (copied_any HD6.out HVL.out HCL.out).mono ?_
      rintro e w7 ⟨⟨P7, n7, c7, Q7, m7, d7, rfl, hv⟩, hb⟩
      have HK7 := Lib.hid (HK6.out.trans (hb.mono HK6.out.size))
      have HY7 := Lib.hid (blk HY6.out hb)
      have HD8 := Lib.hid ((hv.set_box (i := 0) (u := .slice P7 n7 c7) HY7.out).set_box (i := 1) (u := .slice Q7 m7 d7) (set_heap HY7.out _))
      have HK8 := Lib.hid ((HK7.out.setCell (p := ⟨y, 0, none⟩) HY5.out (.slice P7 n7 c7)).setCell (p := ⟨y, 1, none⟩) HY5.out (.slice Q7 m7 d7))
      have HY8 : Hid (((w7.setCell ⟨y, 0, none⟩ (.slice P7 n7 c7)).setCell ⟨y, 1, none⟩ (.slice Q7 m7 d7)).heap[y]? = some (.cells #[.slice P7 n7 c7, .slice Q7 m7 d7] 25 (0, 0))) := by
        show _ = _
        rw [set_heap (set_heap HY7.out _)]
        rfl
      obtain ⟨q0, q1⟩ := cells2 HY7.out
      have p0 := (cells_at HY7.out 0).2
      have p1 := (cells_at HY7.out 1).2
      have hyl : y < w7.heap.size := lt_of_heap HY7.out
      clear hv hb
      go_wp2_with fail
      clear q0 q1 p0 p1 hyl
      generalize (w7.setCell ⟨y, 0, none⟩ (.slice P7 n7 c7)).setCell ⟨y, 1, none⟩ (.slice Q7 m7 d7) = w8 at *
      have HB8 := Lib.hid (HB4.out.trans (HK8.out.mono HB4.out.size))
      have HV8 := Lib.hid (HV.out.keep HK8.out)
      have HX8 := Lib.hid (blk HX.out HK8.out)
      have HU8 := Lib.hid (HU.out.keep HB8.out)
      clear HK6 HK7 HK8 HY5 HY6 HY7 HD6 HX HV HH HH1 HU1
      go_loopw [8] (fun i' wr => ∃ i : Nat, i' = .int .i64 (i : Int) ∧ i ≤ nm ∧ Below w8.heap.size w8 wr) (fun i' _ => nm - (intOf i').toNat)
      case atStart => exact ⟨0, by go_num, Nat.zero_le _, Below.refl _ _⟩
      case round =>
        obtain ⟨i, rfl, hi, hbe⟩ := hrel
        have HC := Lib.hid hbe
        clear hbe
        by_cases hlt : i < nm
        · obtain ⟨p, hp⟩ : ∃ p, mm[i]? = some p := ⟨_, List.getElem?_eq_getElem (by rw [HNM.out]; exact hlt)⟩
          obtain ⟨g, off, rfl, hg, k0, k1, k2, hO, hw1', hw2⟩ := act_at HU8.out hp
          obtain ⟨PL, cL, hpl, _⟩ := hO.form
          obtain ⟨nL, hnL⟩ : ∃ nL, p.1.L.length = nL := ⟨_, rfl⟩
          rw [hnL] at hpl
          have hL20 : p.1.L.length ≤ 400000 := by have := HFM.out.2 p (List.mem_of_getElem? hp); omega
          obtain ⟨⟨wh, op, L⟩, pv⟩ := p
          simp only at hpl
          subst hpl
          simp only at k0 k1 k2 hO hw2 hL20
          have HG := Lib.hid hg
          have HK1 := Lib.hid k1
          have HK2 := Lib.hid k2
          have HO := Lib.hid hO
          have HOP := Lib.hid hw2
          have HL20 := Lib.hid hL20
          have i1 : (0 : Int) ≤ (i : Int) := by omega
          have i2 : (i : Int) < (nm : Int) := by omega
          have hw1 : IntKind.i64.wrap ((i : Int) + 1) = (i : Int) + 1 := IntWalk.i64_in _ (by have := HFM.out.1; omega)
          clear hp hg k0 k1 k2 hO hw1' hw2 hnL hL20
          go_wp2_with fail
          refine Stab.region 70 [.is (.agg #[.slice P np cp, .slice Q m d]), .is (.slice (some ⟨g, off, none⟩) nm cm), .is (.int .i64 (i : Int)), .is (.pointer (some ⟨g, off + i * 3, none⟩)), .is (.pointer (some ⟨g, off + i * 3 + 2, none⟩)), .is (.slice PL nL cL), .fits (fun _ _ => True)] (by kernel_rfl) (by kernel_rfl) rfl rfl ?_ ?_
          · with_reducible refine Stab.steps_cons ?_ ?_ ?_
            · exact Stab.owes_load rfl (fun v W hb hv => by subst hv; exact ld_stk (blk HX8.out (HC.out.trans (hb.mono HC.out.size)))) rfl
            · exact trivial
            with_reducible refine Stab.steps_cons ?_ ?_ ?_
            · exact Stab.owes_move rfl rfl rfl
            · exact trivial
            with_reducible refine Stab.steps_cons ?_ ?_ ?_
            · exact Stab.owes_move rfl rfl rfl
            · exact trivial
            with_reducible refine Stab.steps_cons ?_ ?_ ?_
            · exact Stab.owes_indexAt rfl rfl rfl (fun W => run_atA _ _ _ _ _ W i1 i2) rfl
            · exact trivial
            with_reducible refine Stab.steps_cons ?_ ?_ ?_
            · exact Stab.owes_fieldAt rfl rfl (fun W => run_fA2 _ _ W) rfl
            · exact trivial
            with_reducible refine Stab.steps_cons ?_ ?_ ?_
            · exact Stab.owes_load rfl (fun v W hb hv => by subst hv; exact Stab.run_cellS _ _ _ _ _ W (((HC.out.trans (hb.mono HC.out.size)).cell (p := ⟨g, off + i * 3 + 2, none⟩) HG.out).trans HK2.out)) rfl
            · exact trivial
            with_reducible refine Stab.steps_cons ?_ ?_ ?_
            · (refine Stab.owes_call Try.func12 (by kernel_rfl) (by kernel_rfl) rfl (fun vs W hb hall => ?_) rfl; obtain ⟨_, _, rfl, rfl, _, _, rfl, rfl, rfl⟩ := hall; have hW := HC.out.trans (hb.mono HC.out.size); refine (Push_st (HV8.out.keep hW) (HO.out.keep hW) HVL.out HCL.out HL20.out).mono ?_; rintro e w2 ⟨⟨v', rfl, _⟩, hb2⟩; exact ⟨_, rfl, hb2, trivial⟩)
            · exact fun _ _ _ h _ => h
            exact Stab.steps_nil
          intro y1 wA hbw _
          have HC1 := Lib.hid (HC.out.trans (hbw.mono HC.out.size))
          clear hbw
          simp only [Act.put, List.setIfInBounds_toArray, List.set_cons_succ, List.set_cons_zero]
          obtain ⟨x0, x1⟩ := cells2 (blk HX8.out HC1.out)
          have hxl : x < wA.heap.size := lt_of_heap (blk HX8.out HC1.out)
          go_wp2_with fail
          clear x0 x1 hxl
          refine (Pop_st (HV8.out.keep HC1.out) HVL.out HCL.out).mono ?_
          rintro e wB ⟨⟨v1, rfl, _⟩, hb⟩
          have HC2 := Lib.hid (HC1.out.trans (hb.mono HC1.out.size))
          clear hb
          go_wp2_with fail
          refine Stab.region 70 [.is (.agg #[.slice P np cp, .slice Q m d]), .is (.slice (some ⟨g, off, none⟩) nm cm), .is (.int .i64 (i : Int)), .is (.pointer (some ⟨g, off + i * 3, none⟩)), .is (.pointer (some ⟨g, off + i * 3 + 2, none⟩)), .is (.slice PL nL cL), .fits (fun _ _ => True)] (by kernel_rfl) (by kernel_rfl) rfl rfl ?_ ?_
          · with_reducible refine Stab.steps_cons ?_ ?_ ?_
            · exact Stab.owes_load rfl (fun v W hb hv => by subst hv; exact ld_stk (blk HX8.out (HC2.out.trans (hb.mono HC2.out.size)))) rfl
            · exact trivial
            with_reducible refine Stab.steps_cons ?_ ?_ ?_
            · exact Stab.owes_move rfl rfl rfl
            · exact trivial
            with_reducible refine Stab.steps_cons ?_ ?_ ?_
            · exact Stab.owes_move rfl rfl rfl
            · exact trivial
            with_reducible refine Stab.steps_cons ?_ ?_ ?_
            · exact Stab.owes_indexAt rfl rfl rfl (fun W => run_atA _ _ _ _ _ W i1 i2) rfl
            · exact trivial
            with_reducible refine Stab.steps_cons ?_ ?_ ?_
            · exact Stab.owes_fieldAt rfl rfl (fun W => run_fA2 _ _ W) rfl
            · exact trivial
            with_reducible refine Stab.steps_cons ?_ ?_ ?_
            · exact Stab.owes_load rfl (fun v W hb hv => by subst hv; exact Stab.run_cellS _ _ _ _ _ W (((HC2.out.trans (hb.mono HC2.out.size)).cell (p := ⟨g, off + i * 3 + 2, none⟩) HG.out).trans HK2.out)) rfl
            · exact trivial
            with_reducible refine Stab.steps_cons ?_ ?_ ?_
            · (refine Stab.owes_call Try.func18 (by kernel_rfl) (by kernel_rfl) rfl (fun vs W hb hall => ?_) rfl; obtain ⟨_, _, rfl, rfl, _, _, rfl, rfl, rfl⟩ := hall; have hW := HC2.out.trans (hb.mono HC2.out.size); refine (Want_st (HV8.out.keep hW) (HO.out.keep hW) HVL.out HCL.out HL20.out).mono ?_; rintro e w2 ⟨⟨v', rfl, _⟩, hb2⟩; exact ⟨_, rfl, hb2, trivial⟩)
            · exact fun _ _ _ h _ => h
            exact Stab.steps_nil
          intro y1 wC hbw _
          have HC3 := Lib.hid (HC2.out.trans (hbw.mono HC2.out.size))
          clear hbw
          simp only [Act.put, List.setIfInBounds_toArray, List.set_cons_succ, List.set_cons_zero]
          go_wp2_with fail
          refine Stab.region 70 [.is (.agg #[.slice P np cp, .slice Q m d]), .is (.slice (some ⟨g, off, none⟩) nm cm), .is (.int .i64 (i : Int)), .is (.pointer (some ⟨g, off + i * 3, none⟩)), .is (.pointer (some ⟨g, off + i * 3 + 1, none⟩)), .is (.int .i64 op), .is (.slice (some ⟨g, off, none⟩) nm cm), .is (.int .i64 (i : Int)), .is (.pointer (some ⟨g, off + i * 3, none⟩)), .is (.pointer (some ⟨g, off + i * 3 + 2, none⟩)), .is (.slice PL nL cL), .fits (fun _ _ => True)] (by kernel_rfl) (by kernel_rfl) rfl rfl ?_ ?_
          · with_reducible refine Stab.steps_cons ?_ ?_ ?_
            · exact Stab.owes_load rfl (fun v W hb hv => by subst hv; exact ld_stk (blk HX8.out (HC3.out.trans (hb.mono HC3.out.size)))) rfl
            · exact trivial
            with_reducible refine Stab.steps_cons ?_ ?_ ?_
            · exact Stab.owes_move rfl rfl rfl
            · exact trivial
            with_reducible refine Stab.steps_cons ?_ ?_ ?_
            · exact Stab.owes_move rfl rfl rfl
            · exact trivial
            with_reducible refine Stab.steps_cons ?_ ?_ ?_
            · exact Stab.owes_indexAt rfl rfl rfl (fun W => run_atA _ _ _ _ _ W i1 i2) rfl
            · exact trivial
            with_reducible refine Stab.steps_cons ?_ ?_ ?_
            · exact Stab.owes_fieldAt rfl rfl (fun W => run_fA1 _ _ W) rfl
            · exact trivial
            with_reducible refine Stab.steps_cons ?_ ?_ ?_
            · exact Stab.owes_load rfl (fun v W hb hv => by subst hv; exact Stab.run_cellI _ _ _ W (((HC3.out.trans (hb.mono HC3.out.size)).cell (p := ⟨g, off + i * 3 + 1, none⟩) HG.out).trans HK1.out)) rfl
            · exact trivial
            with_reducible refine Stab.steps_cons ?_ ?_ ?_
            · exact Stab.owes_move rfl rfl rfl
            · exact trivial
            with_reducible refine Stab.steps_cons ?_ ?_ ?_
            · exact Stab.owes_move rfl rfl rfl
            · exact trivial
            with_reducible refine Stab.steps_cons ?_ ?_ ?_
            · exact Stab.owes_indexAt rfl rfl rfl (fun W => run_atA _ _ _ _ _ W i1 i2) rfl
            · exact trivial
            with_reducible refine Stab.steps_cons ?_ ?_ ?_
            · exact Stab.owes_fieldAt rfl rfl (fun W => run_fA2 _ _ W) rfl
            · exact trivial
            with_reducible refine Stab.steps_cons ?_ ?_ ?_
            · exact Stab.owes_load rfl (fun v W hb hv => by subst hv; exact Stab.run_cellS _ _ _ _ _ W (((HC3.out.trans (hb.mono HC3.out.size)).cell (p := ⟨g, off + i * 3 + 2, none⟩) HG.out).trans HK2.out)) rfl
            · exact trivial
            with_reducible refine Stab.steps_cons ?_ ?_ ?_
            · (refine Stab.owes_call Try.func20 (by kernel_rfl) (by kernel_rfl) rfl (fun vs W hb hall => ?_) rfl; obtain ⟨_, _, rfl, rfl, _, _, rfl, rfl, _, _, rfl, rfl, rfl⟩ := hall; have hW := HC3.out.trans (hb.mono HC3.out.size); refine (Open_st (HV8.out.keep hW) (HO.out.keep hW) HOP.out HVL.out HCL.out HL20.out).mono ?_; rintro e w2 ⟨⟨v', rfl, _⟩, hb2⟩; exact ⟨_, rfl, hb2, trivial⟩)
            · exact fun _ _ _ h _ => h
            exact Stab.steps_nil
          intro y1 wD hbw _
          have HC4 := Lib.hid (HC3.out.trans (hbw.mono HC3.out.size))
          clear hbw
          simp only [Act.put, List.setIfInBounds_toArray, List.set_cons_succ, List.set_cons_zero]
          obtain ⟨x0, x1⟩ := cells2 (blk HX8.out HC4.out)
          have hxl : x < wD.heap.size := lt_of_heap (blk HX8.out HC4.out)
          go_wp2_with fail
          clear x0 x1 hxl
          refine (Close_st (HV8.out.keep HC4.out) HVL.out HCL.out).mono ?_
          rintro e wE ⟨⟨v1, u1, rfl, _⟩, hb⟩
          have HC5 := Lib.hid (HC4.out.trans (hb.mono HC4.out.size))
          clear hb
          obtain ⟨x0, x1⟩ := cells2 (blk HX8.out HC5.out)
          have hxl : x < wE.heap.size := lt_of_heap (blk HX8.out HC5.out)
          go_wp2_with fail
          clear x0 x1 hxl
          refine (Kill_st (HV8.out.keep HC5.out) HVL.out HCL.out).mono ?_
          rintro e wF ⟨⟨v2, rfl, _⟩, hb⟩
          have HC6 := Lib.hid (HC5.out.trans (hb.mono HC5.out.size))
          clear hb
          go_wp2_with fail
          go_roundw
          case rel => exact ⟨i + 1, by go_num, hlt, HC6.out⟩
          case measure => simp [intOf]; omega
        · obtain rfl : i = nm := by omega
          go_wp2_with fail
          refine Stab.region 70 [.is (.bool true), .is (.bool true), .is (.agg #[.slice P np cp, .slice Q m d]), .fits (fun v W => StIs elD W v s), .is (.agg #[.slice P7 n7 c7, .slice Q7 m7 d7]), .is (.bool true), .is (.bool true), .is (.bool true)] (by kernel_rfl) (by kernel_rfl) rfl rfl ?_ ?_
          · with_reducible refine Stab.steps_cons ?_ ?_ ?_
            · exact Stab.owes_move rfl rfl rfl
            · exact trivial
            with_reducible refine Stab.steps_cons ?_ ?_ ?_
            · exact Stab.owes_move rfl rfl rfl
            · exact trivial
            with_reducible refine Stab.steps_cons ?_ ?_ ?_
            · exact Stab.owes_load rfl (fun v W hb hv => by subst hv; exact ld_stk (blk HX8.out (HC.out.trans (hb.mono HC.out.size)))) rfl
            · exact trivial
            with_reducible refine Stab.steps_cons ?_ ?_ ?_
            · (refine Stab.owes_call Try.func17 (by kernel_rfl) (by kernel_rfl) rfl (fun vs W hb hall => ?_) rfl; obtain ⟨_, _, rfl, rfl, rfl⟩ := hall; refine (theirs_any (HV8.out.keep (HC.out.trans (hb.mono HC.out.size))) HCL.out).mono ?_; rintro e w2 ⟨⟨P', n', c', Q', m', d', rfl, hv⟩, hb2⟩; exact ⟨_, rfl, hb2, hv⟩)
            · exact fun v w w' h hb => StIs.keep h hb
            with_reducible refine Stab.steps_cons ?_ ?_ ?_
            · exact Stab.owes_load rfl (fun v W hb hv => by subst hv; exact ld_stD (blk HY8.out (HC.out.trans (hb.mono HC.out.size)))) rfl
            · exact trivial
            with_reducible refine Stab.steps_cons ?_ ?_ ?_
            · (refine Stab.owes_call Try.func16 (by kernel_rfl) (by kernel_rfl) rfl (fun vs W hb hall => ?_) rfl; obtain ⟨v1, _, rfl, h1, _, _, rfl, rfl, rfl⟩ := hall; have h1 : StIs elD W v1 s := h1; refine (same_yes h1 (HD8.out.keep (HC.out.trans (hb.mono HC.out.size))) (by have := HCL.out; omega)).mono ?_; rintro e w2 ⟨rfl, hb2⟩; exact ⟨_, rfl, hb2, rfl⟩)
            · exact trivial
            with_reducible refine Stab.steps_cons ?_ ?_ ?_
            · exact Stab.owes_pick rfl rfl rfl rfl
            · exact trivial
            with_reducible refine Stab.steps_cons ?_ ?_ ?_
            · exact Stab.owes_assign rfl rfl rfl
            · exact trivial
            exact Stab.steps_nil
          intro y1 wZ hbw _
          have HZ := Lib.hid (HB8.out.trans ((HC.out.trans (hbw.mono HC.out.size)).mono HB8.out.size))
          clear hbw
          simp only [Act.put, List.setIfInBounds_toArray, List.set_cons_succ, List.set_cons_zero]
          go_wp2_with fail
          exact bodyPost_ret (v := .bool true) (by simp [results, Try.results8, go_sem]) rfl ⟨rfl, HZ.out⟩
end Go.Proofs.Ytdafldahmojpdaa.Stk
