/- The law's ctrl and theirs, the document's Copied, SameCtrl and Same (of the same), walked. -/
import Derived.Test.YtlappkflnlbfcaaStackGrowsWalk
namespace Go.Proofs.Ytlappkflnlbfcaa.Stk
open Go.RowKit Row9
set_option maxRecDepth 100000
set_option maxHeartbeats 4000000
set_option linter.unusedVariables false
theorem samec_yes {op ht : Int} {dd : Bool} {v1 v2 : Value} {f : List Int} {w : World} (h1 : Row elB w v1 f) (h2 : Row elB w v2 f) :
    Calls Try.prog 23 #[.agg #[.int .i64 op, v1, .int .i64 ht, .bool dd], .agg #[.int .i64 op, v2, .int .i64 ht, .bool dd]] w (Yes w) := by
  obtain ⟨P1, c1, rfl, _⟩ := h1.form
  obtain ⟨P2, c2, rfl, _⟩ := h2.form
  obtain ⟨n, hn⟩ : ∃ n, f.length = n := ⟨_, rfl⟩
  rw [hn] at h1 h2 ⊢
  have HB := Lib.hid (below2 w (.cells #[.int .i64 op, .slice P1 n c1, .int .i64 ht, .bool dd] 49) (.cells #[.int .i64 op, .slice P2 n c2, .int .i64 ht, .bool dd] 49))
  have e1 := run_txt (h1.keep HB.out)
  have e2 := run_txt (h2.keep HB.out)
  generalize strOfNums f = S1 at e1 e2
  have t2 : (S1.toList == S1.toList) = true := by simp
  have t3 : (op == op) = true := by simp
  have t4 : (ht == ht) = true := by simp
  have t5 : (dd == dd) = true := by simp
  clear h1 h2 hn
  go_enter Try.func23, Try.ntmps23
  go_wp2_with fail
  exact bodyPost_ret (v := .bool true) (by simp [results, Try.results23, go_sem]) rfl ⟨rfl, HB.out⟩
theorem ctrl_any {op ht : Int} {dd : Bool} {P : Option Addr} {n c : Nat} {w : World} :
    Calls Try.prog 24 #[.agg #[.int .i64 op, .slice P n c, .int .i64 ht, .bool dd]] w fun e w' => e = .returned (.agg #[.int .i64 op, .slice P n c, .int .i64 ht, .bool dd]) ∧ Below w.heap.size w w' := by
  have HB := Lib.hid (below2 w (.cells #[.int .i64 op, .slice P n c, .int .i64 ht, .bool dd] 46) (.cells #[.int .i64 op, .slice P n c, .int .i64 ht, .bool dd] 49))
  have HB' := Lib.hid (below2 w (.cells #[.int .i64 op, .slice P n c, .int .i64 ht, .bool dd] 46) (.cells #[.int .i64 0, .slice none 0 0, .int .i64 0, .bool false] 49))
  go_enter Try.func24, Try.ntmps24
  go_wp2_with fail
  refine bodyPost_ret (v := .agg #[.int .i64 op, .slice P n c, .int .i64 ht, .bool dd]) (by simp [results, Try.results24, go_sem]) rfl ⟨rfl, ?_⟩
  first
  | exact HB.out
  | (repeat (first | with_reducible exact HB'.out | refine Below.setCell ?_ (by first | (simp; done) | (simp; omega)) _))
/-- The same: told so. -/
theorem same_yes {v u : Value} {s : Stk} {w : World} (hv : StIs elD w v s) (hu : StIs elD w u s) (hl : s.cs.length ≤ 1000000) : Calls Try.prog 11 #[v, u] w (Yes w) := by
  obtain ⟨P, n, c, Q, m, d, rfl⟩ := StIs.form (T := elD) hv
  obtain ⟨P2, n2, c2, Q2, m2, d2, rfl⟩ := StIs.form (T := elD) hu
  obtain ⟨l1, hb1, hc1, hm1, e1, e2, e3⟩ := hv.rows
  obtain ⟨l2, hb2, hc2, hm2, e4, e5, e6⟩ := hu.rows
  obtain rfl : n2 = n := e4.symm.trans e1
  obtain rfl : m2 = m := e6.symm.trans e3
  have HB := Lib.hid (below2 w (.cells #[.slice P n2 c, .slice Q m2 d] 25) (.cells #[.slice P2 n2 c2, .slice Q2 m2 d2] 25))
  have HS := Lib.hid (size_new w (.cells #[.slice P n2 c, .slice Q m2 d] 25))
  have HC1 := Lib.hid (hc1.keep HB.out)
  have HC2 := Lib.hid (hc2.keep HB.out)
  have HM1 := Lib.hid hm1
  have HM2 := Lib.hid hm2
  have HL1 := Lib.hid e2
  have HL2 := Lib.hid e5
  have g1 := run_txt (hb1.keep HB.out)
  have g2 := run_txt (hb2.keep HB.out)
  have HX1 := Lib.hid ((below_new (w.alloc (.cells #[.slice P n2 c, .slice Q m2 d] 25)) (.cells #[.slice P2 n2 c2, .slice Q2 m2 d2] 25)).block w.heap.size (by rw [size_new]; omega) |>.trans (heap_new w (.cells #[.slice P n2 c, .slice Q m2 d] 25)))
  have HX2 := Lib.hid (heap_new (w.alloc (.cells #[.slice P n2 c, .slice Q m2 d] 25)) (.cells #[.slice P2 n2 c2, .slice Q2 m2 d2] 25))
  rw [HS.out] at HX2
  generalize strOfNums s.vals = S1 at g1 g2
  have t2 : (S1.toList == S1.toList) = true := by simp
  have t2' : (S1.toList != S1.toList) = false := by simp
  have t3 : ((m2 : Int) == (m2 : Int)) = true := by simp
  have hbig : m2 ≤ 1000000 := by omega
  clear hv hu hb1 hb2 hc1 hc2 hm1 hm2 e1 e2 e3 e4 e5 e6 hl
  go_enter Try.func11, Try.ntmps11
  go_wp2_with fail
  generalize (w.alloc (.cells #[.slice P n2 c, .slice Q m2 d] 25)).alloc (.cells #[.slice P2 n2 c2, .slice Q2 m2 d2] 25) = w2 at *
  obtain ⟨x, hx⟩ : ∃ x, w.heap.size = x := ⟨_, rfl⟩
  obtain ⟨y, hy⟩ : ∃ y, x + 1 = y := ⟨_, rfl⟩
  rw [hx] at HX1 HX2
  rw [hy] at HX2
  simp only [hx, hy]
  clear g1 g2 hy HS
  go_loopw [5] (fun i' wr => ∃ i : Nat, i' = .int .i64 (i : Int) ∧ i ≤ m2 ∧ Below w2.heap.size w2 wr) (fun i' _ => m2 - (intOf i').toNat)
  case atStart => exact ⟨0, by go_num, Nat.zero_le _, Below.refl _ _⟩
  case round =>
    obtain ⟨i, rfl, hi, hbe⟩ := hrel
    have HBe := Lib.hid hbe
    have x0 := (hbe.cell (p := ⟨x, 0, none⟩) (lt_of_heap HX1.out)).trans (cells_at HX1.out 0).1
    have x1 := (hbe.cell (p := ⟨x, 1, none⟩) (lt_of_heap HX1.out)).trans (cells_at HX1.out 1).1
    have y0 := (hbe.cell (p := ⟨y, 0, none⟩) (lt_of_heap HX2.out)).trans (cells_at HX2.out 0).1
    have y1 := (hbe.cell (p := ⟨y, 1, none⟩) (lt_of_heap HX2.out)).trans (cells_at HX2.out 1).1
    simp only [List.getElem?_toArray, List.getElem?_cons_zero, List.getElem?_cons_succ] at x0 x1 y0 y1
    clear hbe
    by_cases hlt : i < m2
    · obtain ⟨p, hp⟩ : ∃ p, l1[i]? = some p := ⟨_, List.getElem?_eq_getElem (by rw [HL1.out]; exact hlt)⟩
      obtain ⟨q, hq⟩ : ∃ q, l2[i]? = some q := ⟨_, List.getElem?_eq_getElem (by rw [HL2.out]; exact hlt)⟩
      have hpq : p.1 = q.1 := by
        have h1 : (l1.map (·.1))[i]? = some p.1 := by rw [List.getElem?_map, hp]; rfl
        have h2 : (l2.map (·.1))[i]? = some q.1 := by rw [List.getElem?_map, hq]; rfl
        rw [HM1.out] at h1
        rw [HM2.out, h1] at h2
        exact Option.some.inj h2
      obtain ⟨g, o1, rfl, hg, k0, k1, k2, k3, hO1⟩ := ctl_at (HC1.out.keep HBe.out) hp
      obtain ⟨g', o2, rfl, hg', j0, j1, j2, j3, hO2⟩ := ctl_at (HC2.out.keep HBe.out) hq
      obtain ⟨⟨op, fin, ht, dd⟩, u1⟩ := p
      obtain ⟨qc, u2⟩ := q
      simp only at hpq
      subst hpq
      have HD := Lib.hid (samec_yes (op := op) (ht := ht) (dd := dd) (hO1.1.keep (below_drew1 wr)) (hO2.1.keep (below_drew1 wr)))
      obtain ⟨A1, b1, hu1, _⟩ := hO1.1.form
      obtain ⟨A2, b2, hu2, _⟩ := hO2.1.form
      simp only at hu1 hu2 k0 k1 k2 k3 j0 j1 j2 j3
      obtain ⟨nf, hnf⟩ : ∃ nf, fin.length = nf := ⟨_, rfl⟩
      rw [hnf] at hu1 hu2
      subst hu1 hu2
      obtain ⟨r1, hr1⟩ : ∃ r1, o1 + i * 4 = r1 := ⟨_, rfl⟩
      obtain ⟨r2, hr2⟩ : ∃ r2, o2 + i * 4 = r2 := ⟨_, rfl⟩
      rw [hr1] at k0 k1 k2 k3
      rw [hr2] at j0 j1 j2 j3
      have i1 : (0 : Int) ≤ (i : Int) := by omega
      have i2 : (i : Int) < (m2 : Int) := by omega
      have hw1 : IntKind.i64.wrap ((i : Int) + 1) = (i : Int) + 1 := IntWalk.i64_in _ (by omega)
      clear hp hq hg hg' hO1 hO2 hnf
      go_wp2_with fail
      go_region_law (go_simp; go_at_call 23; refine (HD.out).mono ?_; rintro en w6 ⟨rfl, hb6⟩; have HB6 := Lib.hid ((below_drew1 wr).trans hb6); clear hb6)
      all_goals (
        go_wp2_with fail
        go_roundw
        case rel => exact ⟨i + 1, by go_num, hlt, by first | exact HBe.out.trans (HB6.out.mono HBe.out.size) | exact (HBe.out.trans (HB6.out.mono HBe.out.size)).drew⟩
        case measure => simp [intOf]; omega)
    · obtain rfl : i = m2 := by omega
      go_wp2_with fail
      exact bodyPost_ret (v := .bool true) (by simp [results, Try.results11, go_sem]) rfl ⟨rfl, HB.out.trans (HBe.out.mono HB.out.size)⟩
end Go.Proofs.Ytlappkflnlbfcaa.Stk
