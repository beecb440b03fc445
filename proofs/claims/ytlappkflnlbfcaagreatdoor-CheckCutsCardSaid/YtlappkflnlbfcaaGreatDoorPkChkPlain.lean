/- ChkSmall, ChkTE, ChkPlain. -/
import Derived.Test.YtlappkflnlbfcaaGreatDoorPkChkPrim
import Derived.Test.YtlappkflnlbfcaaGreatDoorPkChkM
import Derived.Test.YtlappkflnlbfcaaGreatDoorPkChkI0
import Derived.Deep.RegionLaw
section
/- The law's small, walked (gen_cksmall.py). -/
namespace Go.Proofs.YtlappkflnlbfcaaGreatDoor.Chk
open Go.RowKit Row9 Stk
set_option maxRecDepth 100000
set_option maxHeartbeats 8000000
set_option linter.unusedVariables false
def smallE (E : EnvP) : Bool := decide (E.types.length ≤ 70) && decide (E.funcs.length ≤ 130) && decide (E.globs.length ≤ 70) && decide (E.locals.length ≤ 100) && decide (E.results.length ≤ 20) && E.types.all fun p => decide (p.1.length ≤ 40) && decide (p.2.length ≤ 40)
theorem cells7e {w : World} {y : Nat} {a b c d e f g : Value} {t : TypeId} (h : w.heap[y]? = some (.cells #[a, b, c, d, e, f, g] t (0, 0))) : w.cell? ⟨y, 0, none⟩ = some a ∧ w.cell? ⟨y, 1, none⟩ = some b ∧ w.cell? ⟨y, 2, none⟩ = some c ∧ w.cell? ⟨y, 3, none⟩ = some d ∧ w.cell? ⟨y, 4, none⟩ = some e ∧ w.cell? ⟨y, 5, none⟩ = some f ∧ w.cell? ⟨y, 6, none⟩ = some g :=
  ⟨(cells_at h 0).1, (cells_at h 1).1, (cells_at h 2).1, (cells_at h 3).1, (cells_at h 4).1, (cells_at h 5).1, (cells_at h 6).1⟩
theorem small_any {w : World} {V : EV} {E : EnvP} (h : EnvOk elGD w V E) :
    Calls Tryz.prog 10 #[evV V E] w fun e w' => e = .returned (.bool (smallE E)) ∧ Below w.heap.size w w' := by
  obtain ⟨⟨ts, hts, hmt⟩, hf, hg, hl, hr, hit, him⟩ := h
  obtain ⟨types, funcs, tb, mm, globs, locals, ress⟩ := E
  obtain ⟨Pt, nt, ct, Pf, nf, cf, Pg, ng, cg, Pl, nl, cl, Pr, nr, cr⟩ := V
  simp only at hts hmt hf hg hl hr hit him
  have h1 : ts.length = nt := by obtain ⟨_, _, e, _⟩ := hts.form; injection e with _ e; exact e.symm
  have h2 : funcs.length = nf := by obtain ⟨_, _, e, _⟩ := hf.form; injection e with _ e; exact e.symm
  have h3 : globs.length = ng := by obtain ⟨_, _, e, _⟩ := hg.form; injection e with _ e; exact e.symm
  have h4 : locals.length = nl := by obtain ⟨_, _, e, _⟩ := hl.form; injection e with _ e; exact e.symm
  have h5 : ress.length = nr := by obtain ⟨_, _, e, _⟩ := hr.form; injection e with _ e; exact e.symm
  have hsm : smallE ⟨types, funcs, tb, mm, globs, locals, ress⟩ = (decide (nt ≤ 70) && decide (nf ≤ 130) && decide (ng ≤ 70) && decide (nl ≤ 100) && decide (nr ≤ 20) && ts.all fun p => decide (p.1.1.length ≤ 40) && decide (p.1.2.length ≤ 40)) := by
    unfold smallE
    simp only
    rw [← hmt, List.length_map, h1, h2, h3, h4, h5, List.all_map]
    rfl
  have HW := Lib.hid (below_new w (.cells #[.slice Pt nt ct, .slice Pf nf cf, .int .i64 tb, .int .i64 mm, .slice Pg ng cg, .slice Pl nl cl, .slice Pr nr cr] 27))
  have HX := Lib.hid (heap_new w (.cells #[.slice Pt nt ct, .slice Pf nf cf, .int .i64 tb, .int .i64 mm, .slice Pg ng cg, .slice Pl nl cl, .slice Pr nr cr] 27))
  have HC := Lib.hid (hts.keep HW.out)
  have HNL := Lib.hid h1
  obtain ⟨R, hR⟩ : ∃ R, smallE ⟨types, funcs, tb, mm, globs, locals, ress⟩ = R := ⟨_, rfl⟩
  rw [hR] at hsm ⊢
  have HSM := Lib.hid hsm
  clear hts hmt hf hg hl hr hit him h1 h2 h3 h4 h5 hR hsm
  obtain ⟨b0, b1, b2, b3, b4, b5, b6⟩ := cells7e HX.out
  show Calls _ _ #[.agg #[.slice Pt nt ct, .slice Pf nf cf, .int .i64 tb, .int .i64 mm, .slice Pg ng cg, .slice Pl nl cl, .slice Pr nr cr]] _ _
  by_cases c0 : 70 < nt
  · have t0 : decide ((70 : Int) < (nt : Int)) = true := decide_eq_true (by omega)
    have HQ : Hid (R = false) := by show _ = _; rw [HSM.out, decide_eq_false (show ¬ nt ≤ 70 by omega)]; simp
    go_enter Tryz.func10, Tryz.ntmps10
    go_wp2_with fail
    all_goals first
      | exact absurd (by assumption) (undef_ne _)
      | exact bodyPost_ret (v := .bool false) (by simp [results, Tryz.results10, go_sem]) rfl ⟨by rw [HQ.out], HW.out⟩
  · have t0 : decide ((70 : Int) < (nt : Int)) = false := decide_eq_false (by omega)
    by_cases c1 : 130 < nf
    · have t1 : decide ((130 : Int) < (nf : Int)) = true := decide_eq_true (by omega)
      have HQ : Hid (R = false) := by show _ = _; rw [HSM.out, decide_eq_false (show ¬ nf ≤ 130 by omega)]; simp
      go_enter Tryz.func10, Tryz.ntmps10
      go_wp2_with fail
      all_goals first
        | exact absurd (by assumption) (undef_ne _)
        | exact bodyPost_ret (v := .bool false) (by simp [results, Tryz.results10, go_sem]) rfl ⟨by rw [HQ.out], HW.out⟩
    · have t1 : decide ((130 : Int) < (nf : Int)) = false := decide_eq_false (by omega)
      by_cases c2 : 70 < ng
      · have t2 : decide ((70 : Int) < (ng : Int)) = true := decide_eq_true (by omega)
        have HQ : Hid (R = false) := by show _ = _; rw [HSM.out, decide_eq_false (show ¬ ng ≤ 70 by omega)]; simp
        go_enter Tryz.func10, Tryz.ntmps10
        go_wp2_with fail
        all_goals first
          | exact absurd (by assumption) (undef_ne _)
          | exact bodyPost_ret (v := .bool false) (by simp [results, Tryz.results10, go_sem]) rfl ⟨by rw [HQ.out], HW.out⟩
      · have t2 : decide ((70 : Int) < (ng : Int)) = false := decide_eq_false (by omega)
        by_cases c3 : 100 < nl
        · have t3 : decide ((100 : Int) < (nl : Int)) = true := decide_eq_true (by omega)
          have HQ : Hid (R = false) := by show _ = _; rw [HSM.out, decide_eq_false (show ¬ nl ≤ 100 by omega)]; simp
          go_enter Tryz.func10, Tryz.ntmps10
          go_wp2_with fail
          all_goals first
            | exact absurd (by assumption) (undef_ne _)
            | exact bodyPost_ret (v := .bool false) (by simp [results, Tryz.results10, go_sem]) rfl ⟨by rw [HQ.out], HW.out⟩
        · have t3 : decide ((100 : Int) < (nl : Int)) = false := decide_eq_false (by omega)
          by_cases c4 : 20 < nr
          · have t4 : decide ((20 : Int) < (nr : Int)) = true := decide_eq_true (by omega)
            have HQ : Hid (R = false) := by show _ = _; rw [HSM.out, decide_eq_false (show ¬ nr ≤ 20 by omega)]; simp
            go_enter Tryz.func10, Tryz.ntmps10
            go_wp2_with fail
            all_goals first
              | exact absurd (by assumption) (undef_ne _)
              | exact bodyPost_ret (v := .bool false) (by simp [results, Tryz.results10, go_sem]) rfl ⟨by rw [HQ.out], HW.out⟩
          · have t4 : decide ((20 : Int) < (nr : Int)) = false := decide_eq_false (by omega)
            have HQ0 : Hid (R = ts.all fun p => decide (p.1.1.length ≤ 40) && decide (p.1.2.length ≤ 40)) := by show _ = _; rw [HSM.out, decide_eq_true (show nt ≤ 70 by omega), decide_eq_true (show nf ≤ 130 by omega), decide_eq_true (show ng ≤ 70 by omega), decide_eq_true (show nl ≤ 100 by omega), decide_eq_true (show nr ≤ 20 by omega)]; simp
            go_enter Tryz.func10, Tryz.ntmps10
            go_wp2_with fail
            generalize w.alloc (.cells #[.slice Pt nt ct, .slice Pf nf cf, .int .i64 tb, .int .i64 mm, .slice Pg ng cg, .slice Pl nl cl, .slice Pr nr cr] 27) = w1 at *
            obtain ⟨x, hx⟩ : ∃ x, w.heap.size = x := ⟨_, rfl⟩
            rw [hx] at HX
            simp only [hx] at b0 b1 b2 b3 b4 b5 b6 ⊢
            have hxl : x < w1.heap.size := lt_of_heap HX.out
            clear hx
            go_loopw [3] (fun i' wr => ∃ i : Nat, i' = .int .i64 (i : Int) ∧ i ≤ nt ∧ wr = w1 ∧ (∀ j p, j < i → ts[j]? = some p → p.1.1.length ≤ 40 ∧ p.1.2.length ≤ 40)) (fun i' _ => nt - (intOf i').toNat)
            case atStart => exact ⟨0, by go_num, Nat.zero_le _, rfl, fun j p hj => absurd hj (by omega)⟩
            case round =>
              obtain ⟨i, rfl, hi, hwr, hs⟩ := hrel
              obtain rfl : w1 = wr := hwr.symm
              have HSi := Lib.hid hs
              clear hs
              by_cases hlt : i < nt
              · obtain ⟨p, hp⟩ : ∃ p, ts[i]? = some p := ⟨_, List.getElem?_eq_getElem (by rw [HNL.out]; exact hlt)⟩
                obtain ⟨g, off, rfl, hg, hCC, hO⟩ := HC.out.at_ hp
                have k0 : w1.cell? ⟨g, off + i * 2, none⟩ = some p.2.1 := hCC 0 _ rfl
                have k1 : w1.cell? ⟨g, off + i * 2 + 1, none⟩ = some p.2.2 := hCC 1 _ rfl
                obtain ⟨Pe, ce, hpe, _⟩ := hO.1.form
                obtain ⟨Ph, ch, hph, _⟩ := hO.2.form
                obtain ⟨ne, hne⟩ : ∃ ne, p.1.1.length = ne := ⟨_, rfl⟩
                obtain ⟨nh, hnh⟩ : ∃ nh, p.1.2.length = nh := ⟨_, rfl⟩
                rw [hne] at hpe
                rw [hnh] at hph
                rw [hpe] at k0
                rw [hph] at k1
                have i1 : (0 : Int) ≤ (i : Int) := by omega
                have i2 : (i : Int) < (nt : Int) := by omega
                have hw1 : IntKind.i64.wrap ((i : Int) + 1) = (i : Int) + 1 := IntWalk.i64_in _ (by omega)
                obtain ⟨qq, hqq⟩ : ∃ qq, off + i * 2 = qq := ⟨_, rfl⟩
                rw [hqq] at k0 k1
                have HP := Lib.hid hp
                have HNE := Lib.hid hne
                have HNH := Lib.hid hnh
                clear hp hO hpe hph hne hnh hg hCC
                have HNO : Hid (¬ (ne ≤ 40 ∧ nh ≤ 40) → R = false) := fun hq => by
                  rw [HQ0.out, List.all_eq_false]
                  refine ⟨p, List.mem_of_getElem? HP.out, ?_⟩
                  rw [HNE.out, HNH.out]
                  simp only [Bool.and_eq_true, decide_eq_true_eq]
                  exact hq
                by_cases h20 : 40 < ne
                · have u5 : decide ((40 : Int) < (ne : Int)) = true := decide_eq_true (by omega)
                  have HQ : Hid (R = false) := HNO.out (by omega)
                  go_wp2_with fail
                  all_goals first
                    | exact absurd (by assumption) (undef_ne _)
                    | exact bodyPost_ret (v := .bool false) (by simp [results, Tryz.results10, go_sem]) rfl ⟨by rw [HQ.out], HW.out⟩
                · have u5 : decide ((40 : Int) < (ne : Int)) = false := decide_eq_false (by omega)
                  by_cases h21 : 40 < nh
                  · have u6 : decide ((40 : Int) < (nh : Int)) = true := decide_eq_true (by omega)
                    have HQ : Hid (R = false) := HNO.out (by omega)
                    go_wp2_with fail
                    exact bodyPost_ret (v := .bool false) (by simp [results, Tryz.results10, go_sem]) rfl ⟨by rw [HQ.out], HW.out⟩
                  · have u6 : decide ((40 : Int) < (nh : Int)) = false := decide_eq_false (by omega)
                    have HN : Hid (∀ j p, j < i + 1 → ts[j]? = some p → p.1.1.length ≤ 40 ∧ p.1.2.length ≤ 40) := fun j p' hj hp' => by
                      by_cases e : j = i
                      · subst e
                        obtain rfl := Option.some.inj (hp'.symm.trans HP.out)
                        rw [HNE.out, HNH.out]
                        omega
                      · exact HSi.out j p' (by omega) hp'
                    go_wp2_with fail
                    go_roundw
                    case rel => exact ⟨i + 1, by go_num, hlt, trivial, HN.out⟩
                    case measure => simp [intOf]; omega
              · obtain rfl : i = nt := by omega
                have HQ : Hid (R = true) := by
                  show _ = _
                  rw [HQ0.out, List.all_eq_true]
                  intro p hp
                  obtain ⟨j, hj⟩ := List.getElem?_of_mem hp
                  have hjl : j < i := by rw [← HNL.out]; exact (List.getElem?_eq_some_iff.1 hj).1
                  have := HSi.out j p hjl hj
                  rw [decide_eq_true this.1, decide_eq_true this.2]
                  rfl
                go_wp2_with fail
                exact bodyPost_ret (v := .bool true) (by simp [results, Tryz.results10, go_sem]) rfl ⟨by rw [HQ.out], HW.out⟩
end Go.Proofs.YtlappkflnlbfcaaGreatDoor.Chk
end

section
/- What is named by a number, else, end: walked (gen_ckm2.py). -/
namespace Go.Proofs.YtlappkflnlbfcaaGreatDoor.Chk
open Go.RowKit Row9 Stk
set_option maxRecDepth 100000
set_option maxHeartbeats 8000000
set_option linter.unusedVariables false
theorem need_eq {b b' : Bool} {i : Int} {x : Rs} (h : b = b') : needR b i x = needR b' i x := by rw [h]
theorem last_op {s : Stk} {l : List CtV} {j : Nat} {p : CtV} (hl : l.map (·.1) = s.cs) (hm : l.length = j + 1) (hp : l[j]? = some p) : lastOp s = p.1.op := by
  unfold lastOp
  rw [← hl, List.getLast?_eq_getElem?, List.length_map, hm, Nat.add_sub_cancel, List.getElem?_map, hp]
  rfl
theorem turn_ck {w : World} {k : Nat} {V : EV} {E : EnvP} {s : Stk} (h : Cx w k V E (.ok s)) (hb : Bd (.ok s) 300000) : Calls Tryz.prog 121 #[.pointer (some ⟨k, 0, none⟩)] w (CkEnds w k V E (turnR s) (.tuple #[])) := by
  obtain ⟨P, n, c, Q, m, d, h1, hs⟩ := h.ok
  obtain ⟨l, _, hrc, hml, _, hnl, hnc⟩ := hs.rows
  have c8 := (cells_at h1 8).1
  have hkl := h.lt
  have c8 : w.cell? ⟨k, 8, none⟩ = some (.slice Q m d) := c8
  have H := Lib.hid h
  have HB0 := Lib.hid hb
  rcases m with _ | j
  · have HD : Hid ((decide (0 < s.cs.length) && (lastOp s == 4)) = false) := by show _ = _; rw [hnc]; rfl
    clear h hb h1 hs hrc hml hnl hnc
    go_enter Tryz.func121, Tryz.ntmps121
    go_wp2_with fail
    clear c8 hkl
    refine (need_ck (b := false) H.out (by decide)).mono ?_
    rintro e w1 ⟨rfl, hc, hbt⟩
    have HBT := Lib.hid hbt
    have HCK := Lib.hid hc
    rw [← need_eq HD.out] at HCK
    clear hc hbt
    go_wp2_with fail
    refine (close_ck HCK.out (HB0.out.need.mono (by omega))).mono ?_
    rintro e w2 ⟨P1, n1, c1, rfl, hl, hc, hbt⟩
    have HBT := Lib.hid (HBT.out.trans hbt)
    have HCK := Lib.hid hc
    have HR := Lib.hid hl
    have hfc := fun W => run_fldC1 (closedC (needR (decide (0 < s.cs.length) && (lastOp s == 4)) 5 (.ok s))).op (closedC (needR (decide (0 < s.cs.length) && (lastOp s == 4)) 5 (.ok s))).ht P1 n1 c1 (closedC (needR (decide (0 < s.cs.length) && (lastOp s == 4)) 5 (.ok s))).dead W
    clear hc hbt hl
    go_wp2_with fail
    clear hfc
    refine (open_ck HCK.out (HB0.out.need.close.mono (by omega)) (⟨by decide, by decide⟩ : w64 5) HR.out (Nat.le_trans (closed_len _) (by omega))).mono ?_
    rintro e w3 ⟨rfl, hc, hbt⟩
    have HBT := Lib.hid (HBT.out.trans hbt)
    have HCK := Lib.hid hc
    clear hc hbt
    go_wp2_with fail
    exact bodyPost_end (v := .tuple #[]) (by simp [results, Tryz.results121, go_sem]) rfl ⟨rfl, HCK.out, HBT.out⟩
  · obtain ⟨p, hp⟩ : ∃ p, l[j]? = some p := ⟨_, List.getElem?_eq_getElem (by omega)⟩
    obtain ⟨g, off, rfl, hg, k0, _, _, _, _⟩ := ctl_at hrc hp
    obtain ⟨q, hq⟩ : ∃ q, (p.1.op == 4) = q := ⟨_, rfl⟩
    have HD : Hid ((decide (0 < s.cs.length) && (lastOp s == 4)) = q) := by
      show _ = _
      rw [hnc, decide_eq_true (by omega), last_op hml hnl hp, hq]
      rfl
    obtain ⟨qq, hqq⟩ : ∃ qq, off + j * 4 = qq := ⟨_, rfl⟩
    rw [hqq] at k0
    have hjb : j + 1 ≤ 300000 := by have := (HB0.out s rfl).2; omega
    have t1 : decide ((0 : Int) < ((j + 1 : Nat) : Int)) = true := decide_eq_true (by omega)
    have t1' : decide (0 < j + 1) = true := decide_eq_true (by omega)
    have t3 : IntKind.i64.wrap (((j + 1 : Nat) : Int) - 1) = (j : Int) := by rw [IntWalk.i64_in _ (by omega)]; omega
    have t3' : IntKind.i64.wrap ((j : Int) + 1 - 1) = (j : Int) := by rw [IntWalk.i64_in _ (by omega)]; omega
    have i1 : (0 : Int) ≤ (j : Int) := by omega
    have i2 : (j : Int) < ((j + 1 : Nat) : Int) := by omega
    clear h hb h1 hs hrc hml hnl hnc hp hg
    go_enter Tryz.func121, Tryz.ntmps121
    go_wp2_with fail
    clear c8 hkl k0
    refine (need_ck (b := q) H.out (by decide)).mono ?_
    rintro e w1 ⟨rfl, hc, hbt⟩
    have HBT := Lib.hid hbt
    have HCK := Lib.hid hc
    rw [← need_eq HD.out] at HCK
    clear hc hbt
    go_wp2_with fail
    refine (close_ck HCK.out (HB0.out.need.mono (by omega))).mono ?_
    rintro e w2 ⟨P1, n1, c1, rfl, hl, hc, hbt⟩
    have HBT := Lib.hid (HBT.out.trans hbt)
    have HCK := Lib.hid hc
    have HR := Lib.hid hl
    have hfc := fun W => run_fldC1 (closedC (needR (decide (0 < s.cs.length) && (lastOp s == 4)) 5 (.ok s))).op (closedC (needR (decide (0 < s.cs.length) && (lastOp s == 4)) 5 (.ok s))).ht P1 n1 c1 (closedC (needR (decide (0 < s.cs.length) && (lastOp s == 4)) 5 (.ok s))).dead W
    clear hc hbt hl
    go_wp2_with fail
    clear hfc
    refine (open_ck HCK.out (HB0.out.need.close.mono (by omega)) (⟨by decide, by decide⟩ : w64 5) HR.out (Nat.le_trans (closed_len _) (by omega))).mono ?_
    rintro e w3 ⟨rfl, hc, hbt⟩
    have HBT := Lib.hid (HBT.out.trans hbt)
    have HCK := Lib.hid hc
    clear hc hbt
    go_wp2_with fail
    exact bodyPost_end (v := .tuple #[]) (by simp [results, Tryz.results121, go_sem]) rfl ⟨rfl, HCK.out, HBT.out⟩
theorem end_ck {w : World} {k : Nat} {V : EV} {E : EnvP} {s : Stk} (h : Cx w k V E (.ok s)) (hb : Bd (.ok s) 300000) : Calls Tryz.prog 122 #[.pointer (some ⟨k, 0, none⟩)] w (CkEnds w k V E (endR s) (.tuple #[])) := by
  obtain ⟨P, n, c, Q, m, d, h1, hs⟩ := h.ok
  obtain ⟨l, _, hrc, hml, _, hnl, hnc⟩ := hs.rows
  have c8 : w.cell? ⟨k, 8, none⟩ = some (.slice Q m d) := (cells_at h1 8).1
  have hkl := h.lt
  have H := Lib.hid h
  have HB0 := Lib.hid hb
  obtain ⟨q, hq⟩ : ∃ q, decide ((2 : Int) ≤ (m : Int)) = q := ⟨_, rfl⟩
  have hq' : decide (2 ≤ m) = q := by rw [← hq]; by_cases e : 2 ≤ m <;> simp [e] <;> omega
  have HD : Hid (decide (2 ≤ s.cs.length) = q) := by show _ = _; rw [hnc]; exact hq'
  clear h hb h1 hs hrc hml hnl hnc
  go_enter Tryz.func122, Tryz.ntmps122
  go_wp2_with fail
  clear c8 hkl
  refine (need_ck (b := q) H.out (by decide)).mono ?_
  rintro e w1 ⟨rfl, hc, hbt⟩
  have HBT := Lib.hid hbt
  have HCK := Lib.hid hc
  rw [← need_eq HD.out] at HCK
  clear hc hbt hq hq'
  go_wp2_with fail
  refine (close_ck HCK.out (HB0.out.need.mono (by omega))).mono ?_
  have HDD : Hid (endR s = pushR (closedC (needR (decide (2 ≤ s.cs.length)) 5 (.ok s))).fin (needR (((closedC (needR (decide (2 ≤ s.cs.length)) 5 (.ok s))).op != 4) || ((closedC (needR (decide (2 ≤ s.cs.length)) 5 (.ok s))).fin.length == 0)) 5 (closeR (needR (decide (2 ≤ s.cs.length)) 5 (.ok s))))) := rfl
  have HCL := Lib.hid (closed_len (needR (decide (2 ≤ s.cs.length)) 5 (.ok s)))
  generalize closedC (needR (decide (2 ≤ s.cs.length)) 5 (.ok s)) = cl at *
  obtain ⟨op, fin, ht, dd⟩ := cl
  rintro e w2 ⟨P1, n1, c1, rfl, hl, hc, hbt⟩
  simp only at hl HDD HCL
  have hn1 : fin.length = n1 := by
    obtain ⟨A, c', e, _⟩ := hl.form
    injection e with _ e _
    exact e.symm
  rw [hn1] at HDD HCL
  have HT := Lib.hid (below_new w2 (.cells #[.int .i64 op, .slice P1 n1 c1, .int .i64 ht, .bool dd] 72))
  have HF := Lib.hid (heap_new w2 (.cells #[.int .i64 op, .slice P1 n1 c1, .int .i64 ht, .bool dd] 72))
  have HBT := Lib.hid ((HBT.out.trans hbt).trans (But.of_below HT.out))
  have HCK := Lib.hid (hc.keep HT.out)
  have HR := Lib.hid (hl.keep HT.out)
  have HFK : Hid (w2.heap.size ≠ k) := Lib.hid (by have := hc.lt; omega)
  have HN1 := Lib.hid hn1
  clear hc hbt hl hn1
  obtain ⟨f0, f1, f2, f3⟩ := cells4 HF.out
  obtain ⟨q1, hq1⟩ : ∃ q, (op != 4) = q := ⟨_, rfl⟩
  obtain ⟨q2, hq2⟩ : ∃ q, ((n1 : Int) == 0) = q := ⟨_, rfl⟩
  have hq2' : (n1 == 0) = q2 := by rw [← hq2]; cases n1 <;> rfl
  have HE : Hid (endR s = pushR fin (needR (q1 || q2) 5 (closeR (needR (decide (2 ≤ s.cs.length)) 5 (.ok s))))) := by show _ = _; rw [HDD.out, hq1, hq2']
  cases q1 <;> cases q2
  all_goals (
    go_wp2_with fail
    clear f0 f1 f2 f3
    generalize w2.alloc (.cells #[.int .i64 op, .slice P1 n1 c1, .int .i64 ht, .bool dd] 72) = w3 at *
    obtain ⟨z, hz⟩ : ∃ z, w2.heap.size = z := ⟨_, rfl⟩
    rw [hz] at HF HFK
    simp only [hz]
    clear hz HT
    refine (need_ck HCK.out (by decide)).mono ?_
    rintro e w4 ⟨rfl, hc, hbt⟩
    have HF := Lib.hid ((hbt.block z (lt_of_heap HF.out) HFK.out).trans HF.out)
    have HR := Lib.hid (rowB_apart HR.out HCK.out.nobb hbt)
    have HBT := Lib.hid (HBT.out.trans hbt)
    have HCK := Lib.hid hc
    clear hc hbt
    obtain ⟨f0, f1, f2, f3⟩ := cells4 HF.out
    go_wp2_with fail
    clear f0 f1 f2 f3
    refine (push_ck HCK.out (HB0.out.need.close.need.mono (by omega)) HR.out (by have := HCL.out; have := HN1.out; omega)).mono ?_
    rintro e w5 ⟨rfl, hc, hbt⟩
    have HBT := Lib.hid (HBT.out.trans hbt)
    have HCK := Lib.hid hc
    clear hc hbt
    go_wp2_with fail
    exact bodyPost_end (v := .tuple #[]) (by simp [results, Tryz.results122, go_sem]) rfl ⟨rfl, by rw [HE.out]; exact HCK.out, HBT.out⟩)
end Go.Proofs.YtlappkflnlbfcaaGreatDoor.Chk
end

section
/- Instructions that nothing stands behind: walked (gen_cktake.py). -/
namespace Go.Proofs.YtlappkflnlbfcaaGreatDoor.Chk
open Go.RowKit Row9 Stk
set_option maxRecDepth 100000
set_option maxHeartbeats 8000000
set_option linter.unusedVariables false
theorem plain_0 {w : World} {k : Nat} {V : EV} {E : EnvP} {s : Stk} {A B K : Int} {lab : Value} (h : Cx w k V E (.ok s)) (hb : Bd (.ok s) 300000) (hf : FnBd E) : Calls Tryz.prog 93 #[.pointer (some ⟨k, 0, none⟩), .agg #[.int .i64 0, .int .i64 A, .int .i64 B, .int .u64 K, lab]] w (CkEnds w k V E (plainR E 0 s) (.tuple #[])) := by
  have HFB := Lib.hid hf
  clear hf
  have HCK := Lib.hid h
  have HB0 := Lib.hid hb
  have HBT : Hid (But k w (w.alloc (.cells #[.int .i64 0, .int .i64 A, .int .i64 B, .int .u64 K, lab] 33))) := But.of_below (below_new w (.cells #[.int .i64 0, .int .i64 A, .int .i64 B, .int .u64 K, lab] 33))
  have HCK := Lib.hid (h.keep (below_new w (.cells #[.int .i64 0, .int .i64 A, .int .i64 B, .int .u64 K, lab] 33)))
  have HX := Lib.hid (heap_new w (.cells #[.int .i64 0, .int .i64 A, .int .i64 B, .int .u64 K, lab] 33))
  have HSZ : Hid ((w.alloc (.cells #[.int .i64 0, .int .i64 A, .int .i64 B, .int .u64 K, lab] 33)).heap.size = w.heap.size + 1) := size_new _ _
  have HYK : Hid (w.heap.size ≠ k) := Lib.hid (by have := h.lt; omega)
  clear h hb
  obtain ⟨b0, b1, b4⟩ := cells5 HX.out
  have bl := lt_of_heap HX.out
  go_enter Tryz.func93, Tryz.ntmps93
  go_wp2_with fail
  clear b0 b1 b4 bl
  generalize w.alloc (.cells #[.int .i64 0, .int .i64 A, .int .i64 B, .int .u64 K, lab] 33) = u0 at *
  obtain ⟨y, hy⟩ : ∃ y, w.heap.size = y := ⟨_, rfl⟩
  rw [hy] at HX HYK HSZ
  simp only [hy]
  clear hy
  refine (kill_ck HCK.out (HB0.out.mono (by omega))).mono ?_
  rintro e w1 ⟨rfl, hc, hbt⟩
  have HX := Lib.hid ((hbt.block y (lt_of_heap HX.out) HYK.out).trans HX.out)
  have HBT := Lib.hid (HBT.out.trans hbt)
  have HCK := Lib.hid hc
  clear hc hbt
  go_wp2_with fail
  exact bodyPost_end (v := .tuple #[]) (by simp [results, Tryz.results93, go_sem]) rfl ⟨rfl, HCK.out, HBT.out⟩
theorem plain_1 {w : World} {k : Nat} {V : EV} {E : EnvP} {s : Stk} {A B K : Int} {lab : Value} (h : Cx w k V E (.ok s)) (hb : Bd (.ok s) 300000) (hf : FnBd E) : Calls Tryz.prog 93 #[.pointer (some ⟨k, 0, none⟩), .agg #[.int .i64 1, .int .i64 A, .int .i64 B, .int .u64 K, lab]] w (CkEnds w k V E (plainR E 1 s) (.tuple #[])) := by
  have HFB := Lib.hid hf
  clear hf
  have HCK := Lib.hid h
  have HB0 := Lib.hid hb
  have HBT : Hid (But k w (w.alloc (.cells #[.int .i64 1, .int .i64 A, .int .i64 B, .int .u64 K, lab] 33))) := But.of_below (below_new w (.cells #[.int .i64 1, .int .i64 A, .int .i64 B, .int .u64 K, lab] 33))
  have HCK := Lib.hid (h.keep (below_new w (.cells #[.int .i64 1, .int .i64 A, .int .i64 B, .int .u64 K, lab] 33)))
  have HX := Lib.hid (heap_new w (.cells #[.int .i64 1, .int .i64 A, .int .i64 B, .int .u64 K, lab] 33))
  have HSZ : Hid ((w.alloc (.cells #[.int .i64 1, .int .i64 A, .int .i64 B, .int .u64 K, lab] 33)).heap.size = w.heap.size + 1) := size_new _ _
  have HYK : Hid (w.heap.size ≠ k) := Lib.hid (by have := h.lt; omega)
  clear h hb
  obtain ⟨b0, b1, b4⟩ := cells5 HX.out
  have bl := lt_of_heap HX.out
  go_enter Tryz.func93, Tryz.ntmps93
  go_wp2_with fail
  clear b0 b1 b4 bl
  generalize w.alloc (.cells #[.int .i64 1, .int .i64 A, .int .i64 B, .int .u64 K, lab] 33) = u0 at *
  obtain ⟨y, hy⟩ : ∃ y, w.heap.size = y := ⟨_, rfl⟩
  rw [hy] at HX HYK HSZ
  simp only [hy]
  clear hy
  refine (push_ck HCK.out (HB0.out.mono (by omega)) (Row.nil _ _) (by simp)).mono ?_
  rintro e w1 ⟨rfl, hc, hbt⟩
  have HX := Lib.hid ((hbt.block y (lt_of_heap HX.out) HYK.out).trans HX.out)
  have HBT := Lib.hid (HBT.out.trans hbt)
  have HCK := Lib.hid hc
  clear hc hbt
  go_wp2_with fail
  exact bodyPost_end (v := .tuple #[]) (by simp [results, Tryz.results93, go_sem]) rfl ⟨rfl, HCK.out, HBT.out⟩
theorem plain_5 {w : World} {k : Nat} {V : EV} {E : EnvP} {s : Stk} {A B K : Int} {lab : Value} (h : Cx w k V E (.ok s)) (hb : Bd (.ok s) 300000) (hf : FnBd E) : Calls Tryz.prog 93 #[.pointer (some ⟨k, 0, none⟩), .agg #[.int .i64 5, .int .i64 A, .int .i64 B, .int .u64 K, lab]] w (CkEnds w k V E (plainR E 5 s) (.tuple #[])) := by
  have HFB := Lib.hid hf
  clear hf
  have HCK := Lib.hid h
  have HB0 := Lib.hid hb
  have HBT : Hid (But k w (w.alloc (.cells #[.int .i64 5, .int .i64 A, .int .i64 B, .int .u64 K, lab] 33))) := But.of_below (below_new w (.cells #[.int .i64 5, .int .i64 A, .int .i64 B, .int .u64 K, lab] 33))
  have HCK := Lib.hid (h.keep (below_new w (.cells #[.int .i64 5, .int .i64 A, .int .i64 B, .int .u64 K, lab] 33)))
  have HX := Lib.hid (heap_new w (.cells #[.int .i64 5, .int .i64 A, .int .i64 B, .int .u64 K, lab] 33))
  have HSZ : Hid ((w.alloc (.cells #[.int .i64 5, .int .i64 A, .int .i64 B, .int .u64 K, lab] 33)).heap.size = w.heap.size + 1) := size_new _ _
  have HYK : Hid (w.heap.size ≠ k) := Lib.hid (by have := h.lt; omega)
  clear h hb
  obtain ⟨b0, b1, b4⟩ := cells5 HX.out
  have bl := lt_of_heap HX.out
  go_enter Tryz.func93, Tryz.ntmps93
  go_wp2_with fail
  clear b0 b1 b4 bl
  generalize w.alloc (.cells #[.int .i64 5, .int .i64 A, .int .i64 B, .int .u64 K, lab] 33) = u0 at *
  obtain ⟨y, hy⟩ : ∃ y, w.heap.size = y := ⟨_, rfl⟩
  rw [hy] at HX HYK HSZ
  simp only [hy]
  clear hy
  refine (turn_ck HCK.out HB0.out).mono ?_
  rintro e w1 ⟨rfl, hc, hbt⟩
  have HX := Lib.hid ((hbt.block y (lt_of_heap HX.out) HYK.out).trans HX.out)
  have HBT := Lib.hid (HBT.out.trans hbt)
  have HCK := Lib.hid hc
  clear hc hbt
  go_wp2_with fail
  exact bodyPost_end (v := .tuple #[]) (by simp [results, Tryz.results93, go_sem]) rfl ⟨rfl, HCK.out, HBT.out⟩
theorem plain_11 {w : World} {k : Nat} {V : EV} {E : EnvP} {s : Stk} {A B K : Int} {lab : Value} (h : Cx w k V E (.ok s)) (hb : Bd (.ok s) 300000) (hf : FnBd E) : Calls Tryz.prog 93 #[.pointer (some ⟨k, 0, none⟩), .agg #[.int .i64 11, .int .i64 A, .int .i64 B, .int .u64 K, lab]] w (CkEnds w k V E (plainR E 11 s) (.tuple #[])) := by
  have HFB := Lib.hid hf
  clear hf
  have HCK := Lib.hid h
  have HB0 := Lib.hid hb
  have HBT : Hid (But k w (w.alloc (.cells #[.int .i64 11, .int .i64 A, .int .i64 B, .int .u64 K, lab] 33))) := But.of_below (below_new w (.cells #[.int .i64 11, .int .i64 A, .int .i64 B, .int .u64 K, lab] 33))
  have HCK := Lib.hid (h.keep (below_new w (.cells #[.int .i64 11, .int .i64 A, .int .i64 B, .int .u64 K, lab] 33)))
  have HX := Lib.hid (heap_new w (.cells #[.int .i64 11, .int .i64 A, .int .i64 B, .int .u64 K, lab] 33))
  have HSZ : Hid ((w.alloc (.cells #[.int .i64 11, .int .i64 A, .int .i64 B, .int .u64 K, lab] 33)).heap.size = w.heap.size + 1) := size_new _ _
  have HYK : Hid (w.heap.size ≠ k) := Lib.hid (by have := h.lt; omega)
  clear h hb
  obtain ⟨b0, b1, b4⟩ := cells5 HX.out
  have bl := lt_of_heap HX.out
  go_enter Tryz.func93, Tryz.ntmps93
  go_wp2_with fail
  clear b0 b1 b4 bl
  generalize w.alloc (.cells #[.int .i64 11, .int .i64 A, .int .i64 B, .int .u64 K, lab] 33) = u0 at *
  obtain ⟨y, hy⟩ : ∃ y, w.heap.size = y := ⟨_, rfl⟩
  rw [hy] at HX HYK HSZ
  simp only [hy]
  clear hy
  refine (end_ck HCK.out HB0.out).mono ?_
  rintro e w1 ⟨rfl, hc, hbt⟩
  have HX := Lib.hid ((hbt.block y (lt_of_heap HX.out) HYK.out).trans HX.out)
  have HBT := Lib.hid (HBT.out.trans hbt)
  have HCK := Lib.hid hc
  clear hc hbt
  go_wp2_with fail
  exact bodyPost_end (v := .tuple #[]) (by simp [results, Tryz.results93, go_sem]) rfl ⟨rfl, HCK.out, HBT.out⟩
theorem plain_27 {w : World} {k : Nat} {V : EV} {E : EnvP} {s : Stk} {A B K : Int} {lab : Value} (h : Cx w k V E (.ok s)) (hb : Bd (.ok s) 300000) (hf : FnBd E) : Calls Tryz.prog 93 #[.pointer (some ⟨k, 0, none⟩), .agg #[.int .i64 27, .int .i64 A, .int .i64 B, .int .u64 K, lab]] w (CkEnds w k V E (plainR E 27 s) (.tuple #[])) := by
  have HFB := Lib.hid hf
  clear hf
  have HCK := Lib.hid h
  have HB0 := Lib.hid hb
  have HBT : Hid (But k w (w.alloc (.cells #[.int .i64 27, .int .i64 A, .int .i64 B, .int .u64 K, lab] 33))) := But.of_below (below_new w (.cells #[.int .i64 27, .int .i64 A, .int .i64 B, .int .u64 K, lab] 33))
  have HCK := Lib.hid (h.keep (below_new w (.cells #[.int .i64 27, .int .i64 A, .int .i64 B, .int .u64 K, lab] 33)))
  have HX := Lib.hid (heap_new w (.cells #[.int .i64 27, .int .i64 A, .int .i64 B, .int .u64 K, lab] 33))
  have HSZ : Hid ((w.alloc (.cells #[.int .i64 27, .int .i64 A, .int .i64 B, .int .u64 K, lab] 33)).heap.size = w.heap.size + 1) := size_new _ _
  have HYK : Hid (w.heap.size ≠ k) := Lib.hid (by have := h.lt; omega)
  clear h hb
  obtain ⟨b0, b1, b4⟩ := cells5 HX.out
  have bl := lt_of_heap HX.out
  go_enter Tryz.func93, Tryz.ntmps93
  go_wp2_with fail
  clear b0 b1 b4 bl
  generalize w.alloc (.cells #[.int .i64 27, .int .i64 A, .int .i64 B, .int .u64 K, lab] 33) = u0 at *
  obtain ⟨y, hy⟩ : ∃ y, w.heap.size = y := ⟨_, rfl⟩
  rw [hy] at HX HYK HSZ
  simp only [hy]
  clear hy
  refine (choose_ck HCK.out HB0.out).mono ?_
  rintro e w1 ⟨rfl, hc, hbt⟩
  have HX := Lib.hid ((hbt.block y (lt_of_heap HX.out) HYK.out).trans HX.out)
  have HBT := Lib.hid (HBT.out.trans hbt)
  have HCK := Lib.hid hc
  clear hc hbt
  go_wp2_with fail
  exact bodyPost_end (v := .tuple #[]) (by simp [results, Tryz.results93, go_sem]) rfl ⟨rfl, HCK.out, HBT.out⟩
theorem plain_26 {w : World} {k : Nat} {V : EV} {E : EnvP} {s : Stk} {A B K : Int} {lab : Value} (h : Cx w k V E (.ok s)) (hb : Bd (.ok s) 300000) (hf : FnBd E) : Calls Tryz.prog 93 #[.pointer (some ⟨k, 0, none⟩), .agg #[.int .i64 26, .int .i64 A, .int .i64 B, .int .u64 K, lab]] w (CkEnds w k V E (plainR E 26 s) (.tuple #[])) := by
  have HFB := Lib.hid hf
  clear hf
  have HCK := Lib.hid h
  have HB0 := Lib.hid hb
  have HBT : Hid (But k w (w.alloc (.cells #[.int .i64 26, .int .i64 A, .int .i64 B, .int .u64 K, lab] 33))) := But.of_below (below_new w (.cells #[.int .i64 26, .int .i64 A, .int .i64 B, .int .u64 K, lab] 33))
  have HCK := Lib.hid (h.keep (below_new w (.cells #[.int .i64 26, .int .i64 A, .int .i64 B, .int .u64 K, lab] 33)))
  have HX := Lib.hid (heap_new w (.cells #[.int .i64 26, .int .i64 A, .int .i64 B, .int .u64 K, lab] 33))
  have HSZ : Hid ((w.alloc (.cells #[.int .i64 26, .int .i64 A, .int .i64 B, .int .u64 K, lab] 33)).heap.size = w.heap.size + 1) := size_new _ _
  have HYK : Hid (w.heap.size ≠ k) := Lib.hid (by have := h.lt; omega)
  clear h hb
  obtain ⟨b0, b1, b4⟩ := cells5 HX.out
  have bl := lt_of_heap HX.out
  go_enter Tryz.func93, Tryz.ntmps93
  go_wp2_with fail
  clear b0 b1 b4 bl
  generalize w.alloc (.cells #[.int .i64 26, .int .i64 A, .int .i64 B, .int .u64 K, lab] 33) = u0 at *
  obtain ⟨y, hy⟩ : ∃ y, w.heap.size = y := ⟨_, rfl⟩
  rw [hy] at HX HYK HSZ
  simp only [hy]
  clear hy
  refine (pop_ck HCK.out (HB0.out.mono (by omega))).mono ?_
  rintro e w1 ⟨rfl, hc, hbt⟩
  have HX := Lib.hid ((hbt.block y (lt_of_heap HX.out) HYK.out).trans HX.out)
  have HBT := Lib.hid (HBT.out.trans hbt)
  have HCK := Lib.hid hc
  clear hc hbt
  go_wp2_with fail
  exact bodyPost_end (v := .tuple #[]) (by simp [results, Tryz.results93, go_sem]) rfl ⟨rfl, HCK.out, HBT.out⟩
theorem plain_15 {w : World} {k : Nat} {V : EV} {E : EnvP} {s : Stk} {A B K : Int} {lab : Value} (h : Cx w k V E (.ok s)) (hb : Bd (.ok s) 300000) (hf : FnBd E) : Calls Tryz.prog 93 #[.pointer (some ⟨k, 0, none⟩), .agg #[.int .i64 15, .int .i64 A, .int .i64 B, .int .u64 K, lab]] w (CkEnds w k V E (plainR E 15 s) (.tuple #[])) := by
  have HFB := Lib.hid hf
  clear hf
  have HCK := Lib.hid h
  have HB0 := Lib.hid hb
  have HBT : Hid (But k w (w.alloc (.cells #[.int .i64 15, .int .i64 A, .int .i64 B, .int .u64 K, lab] 33))) := But.of_below (below_new w (.cells #[.int .i64 15, .int .i64 A, .int .i64 B, .int .u64 K, lab] 33))
  have HCK := Lib.hid (h.keep (below_new w (.cells #[.int .i64 15, .int .i64 A, .int .i64 B, .int .u64 K, lab] 33)))
  have HX := Lib.hid (heap_new w (.cells #[.int .i64 15, .int .i64 A, .int .i64 B, .int .u64 K, lab] 33))
  have HSZ : Hid ((w.alloc (.cells #[.int .i64 15, .int .i64 A, .int .i64 B, .int .u64 K, lab] 33)).heap.size = w.heap.size + 1) := size_new _ _
  have HYK : Hid (w.heap.size ≠ k) := Lib.hid (by have := h.lt; omega)
  clear h hb
  obtain ⟨b0, b1, b4⟩ := cells5 HX.out
  have bl := lt_of_heap HX.out
  obtain ⟨_, _, _, _, _, _, _, hkh⟩ := HCK.out.heap
  obtain ⟨e0, e1, e2, e3, e4, e5, e6⟩ := ckcells hkh
  have ekl := lt_of_heap hkh
  go_enter Tryz.func93, Tryz.ntmps93
  go_wp2_with fail
  clear b0 b1 b4 bl hkh e0 e1 e2 e3 e4 e5 e6 ekl
  generalize w.alloc (.cells #[.int .i64 15, .int .i64 A, .int .i64 B, .int .u64 K, lab] 33) = u0 at *
  obtain ⟨y, hy⟩ : ∃ y, w.heap.size = y := ⟨_, rfl⟩
  rw [hy] at HX HYK HSZ
  simp only [hy]
  clear hy
  refine (want_ck HCK.out (HB0.out.mono (by omega)) HCK.out.env.r (Nat.le_trans HFB.out.2 (by omega))).mono ?_
  rintro e w1 ⟨rfl, hc, hbt⟩
  have HX := Lib.hid ((hbt.block y (lt_of_heap HX.out) HYK.out).trans HX.out)
  have HBT := Lib.hid (HBT.out.trans hbt)
  have HCK := Lib.hid hc
  clear hc hbt
  go_wp2_with fail
  refine (kill_ck HCK.out (HB0.out.want.mono (by omega))).mono ?_
  rintro e w2 ⟨rfl, hc, hbt⟩
  have HX := Lib.hid ((hbt.block y (lt_of_heap HX.out) HYK.out).trans HX.out)
  have HBT := Lib.hid (HBT.out.trans hbt)
  have HCK := Lib.hid hc
  clear hc hbt
  go_wp2_with fail
  exact bodyPost_end (v := .tuple #[]) (by simp [results, Tryz.results93, go_sem]) rfl ⟨rfl, HCK.out, HBT.out⟩
theorem sh_len (op : Int) : (shT op).1.length ≤ 400000 := by
  unfold shT
  repeat (first | (exact of_decide_eq_true rfl) | split)
theorem sh_rng (op : Int) : 0 ≤ (shT op).2 ∧ (shT op).2 < 256 := by
  unfold shT
  repeat (first | (exact ⟨of_decide_eq_true rfl, of_decide_eq_true rfl⟩) | split)
theorem plain_op {w : World} {k : Nat} {V : EV} {E : EnvP} {s : Stk} {op A B K : Int} {lab : Value} (h : Cx w k V E (.ok s)) (hb : Bd (.ok s) 300000) (ho : (69 ≤ op ∧ op ≤ 90) ∨ (103 ≤ op ∧ op ≤ 138) ∨ op = 167 ∨ op = 172 ∨ op = 173) : Calls Tryz.prog 93 #[.pointer (some ⟨k, 0, none⟩), .agg #[.int .i64 op, .int .i64 A, .int .i64 B, .int .u64 K, lab]] w (CkEnds w k V E (plainR E op s) (.tuple #[])) := by
  have HSH := Lib.hid (shape_both op ho).1
  have HLT := Lib.hid (sh_len op)
  have HRG := Lib.hid (sh_rng op)
  have n0 : (op == 0) = false := by simpa using (show op ≠ 0 by omega)
  have n1 : (op == 1) = false := by simpa using (show op ≠ 1 by omega)
  have n5 : (op == 5) = false := by simpa using (show op ≠ 5 by omega)
  have n11 : (op == 11) = false := by simpa using (show op ≠ 11 by omega)
  have n15 : (op == 15) = false := by simpa using (show op ≠ 15 by omega)
  have n26 : (op == 26) = false := by simpa using (show op ≠ 26 by omega)
  have n27 : (op == 27) = false := by simpa using (show op ≠ 27 by omega)
  have HD : Hid (plainR E op s = pushR [(shT op).2] (wantR (shT op).1 (.ok s))) := by show _ = _; unfold plainR; rw [if_neg (by omega), if_neg (by omega), if_neg (by omega), if_neg (by omega), if_neg (by omega), if_neg (by omega), if_neg (by omega)]
  clear ho
  have HCK := Lib.hid h
  have HB0 := Lib.hid hb
  have HBT : Hid (But k w (w.alloc (.cells #[.int .i64 op, .int .i64 A, .int .i64 B, .int .u64 K, lab] 33))) := But.of_below (below_new w (.cells #[.int .i64 op, .int .i64 A, .int .i64 B, .int .u64 K, lab] 33))
  have HCK := Lib.hid (h.keep (below_new w (.cells #[.int .i64 op, .int .i64 A, .int .i64 B, .int .u64 K, lab] 33)))
  have HX := Lib.hid (heap_new w (.cells #[.int .i64 op, .int .i64 A, .int .i64 B, .int .u64 K, lab] 33))
  have HSZ : Hid ((w.alloc (.cells #[.int .i64 op, .int .i64 A, .int .i64 B, .int .u64 K, lab] 33)).heap.size = w.heap.size + 1) := size_new _ _
  have HYK : Hid (w.heap.size ≠ k) := Lib.hid (by have := h.lt; omega)
  clear h hb
  obtain ⟨b0, b1, b4⟩ := cells5 HX.out
  have bl := lt_of_heap HX.out
  go_enter Tryz.func93, Tryz.ntmps93
  go_wp2_with fail
  clear b0 b1 b4 bl
  generalize w.alloc (.cells #[.int .i64 op, .int .i64 A, .int .i64 B, .int .u64 K, lab] 33) = u0 at *
  obtain ⟨y, hy⟩ : ∃ y, w.heap.size = y := ⟨_, rfl⟩
  rw [hy] at HX HYK HSZ
  simp only [hy]
  clear hy
  have HS1 := Lib.hid (HSH.out u0)
  refine (HS1.out).mono ?_
  rintro e w1 ⟨⟨P1, n1, c1, rfl, hr⟩, hb⟩
  have HX := Lib.hid (blk HX.out hb)
  have HBT := Lib.hid (HBT.out.trans (But.of_below hb))
  have HCK := Lib.hid (HCK.out.keep hb)
  have HT1 := Lib.hid hr
  clear hb hr
  go_wp2_with fail
  refine (want_ck HCK.out (HB0.out.mono (by omega)) HT1.out HLT.out).mono ?_
  rintro e w2 ⟨rfl, hc, hbt⟩
  have HT1 := Lib.hid (rowB_apart HT1.out HCK.out.nobb hbt)
  have HX := Lib.hid ((hbt.block y (lt_of_heap HX.out) HYK.out).trans HX.out)
  have HBT := Lib.hid (HBT.out.trans hbt)
  have HCK := Lib.hid hc
  clear hc hbt
  go_wp2_with fail
  have HT := Lib.hid (below_new w2 (.cells #[.int .u8 (shT op).2] 5))
  have HT1 := Lib.hid (HT1.out.keep HT.out)
  have HX := Lib.hid (blk HX.out HT.out)
  have HBT := Lib.hid (HBT.out.trans (But.of_below HT.out))
  have HCK := Lib.hid (HCK.out.keep HT.out)
  have HL := Lib.hid (row_lit1 w2 (shT op).2 HRG.out)
  generalize w2.alloc (.cells #[.int .u8 (shT op).2] 5) = u3 at *
  clear HT
  refine (push_ck HCK.out (HB0.out.want.mono (by omega)) HL.out (by simp)).mono ?_
  rintro e w4 ⟨rfl, hc, hbt⟩
  have HT1 := Lib.hid (rowB_apart HT1.out HCK.out.nobb hbt)
  have HL := Lib.hid (rowB_apart HL.out HCK.out.nobb hbt)
  have HX := Lib.hid ((hbt.block y (lt_of_heap HX.out) HYK.out).trans HX.out)
  have HBT := Lib.hid (HBT.out.trans hbt)
  have HCK := Lib.hid hc
  clear hc hbt
  go_wp2_with fail
  exact bodyPost_end (v := .tuple #[]) (by simp [results, Tryz.results93, go_sem]) rfl ⟨rfl, by rw [HD.out]; exact HCK.out, HBT.out⟩
theorem plain_ck {w : World} {k : Nat} {V : EV} {E : EnvP} {s : Stk} {op A B K : Int} {lab : Value} (h : Cx w k V E (.ok s)) (hb : Bd (.ok s) 300000) (hf : FnBd E) (hk : Ins.kd op = 1) : Calls Tryz.prog 93 #[.pointer (some ⟨k, 0, none⟩), .agg #[.int .i64 op, .int .i64 A, .int .i64 B, .int .u64 K, lab]] w (CkEnds w k V E (plainR E op s) (.tuple #[])) := by
  by_cases h0 : op = 0
  · subst h0; exact plain_0 h hb hf
  by_cases h1 : op = 1
  · subst h1; exact plain_1 h hb hf
  by_cases h5 : op = 5
  · subst h5; exact plain_5 h hb hf
  by_cases h11 : op = 11
  · subst h11; exact plain_11 h hb hf
  by_cases h15 : op = 15
  · subst h15; exact plain_15 h hb hf
  by_cases h26 : op = 26
  · subst h26; exact plain_26 h hb hf
  by_cases h27 : op = 27
  · subst h27; exact plain_27 h hb hf
  refine plain_op h hb ?_
  unfold Ins.kd at hk
  split at hk
  · exact absurd hk (by decide)
  · repeat (first | omega | (split at hk))
end Go.Proofs.YtlappkflnlbfcaaGreatDoor.Chk
end
