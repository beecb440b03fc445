/- The program's Label, walked. -/
import Derived.Test.YtlappkflnlbfcaaStkCloseD
namespace Go.Proofs.Ytlappkflnlbfcaa.Stk
open Go.RowKit Row9
set_option maxRecDepth 100000
set_option maxHeartbeats 2000000
set_option linter.unusedVariables false
def LabTold (r : List Int × Int) (w : World) (e : Ending) (w' : World) : Prop := (∃ v, e = .returned (.tuple #[v, .int .i64 r.2]) ∧ Row elB w' v r.1) ∧ Below w.heap.size w w'
theorem label_no {s : Stk} {n : Int} (h : sane s = false) : labelS s n = ([], 1) := by unfold labelS; rw [if_pos h]
theorem label_out {s : Stk} {n : Int} (h : sane s = true) (hn : n < 0 ∨ (s.cs.length : Int) ≤ n) : labelS s n = ([], 6) := by unfold labelS; rw [if_neg (by rw [h]; decide), if_pos hn]
theorem label_at {s : Stk} {n : Int} {c : Ctl} {k : Nat} (h : sane s = true) (hn : ¬ (n < 0 ∨ (s.cs.length : Int) ≤ n)) (hk : (k : Int) = s.cs.length - 1 - n) (hc : s.cs[k]? = some c) : labelS s n = if c.op = 3 then ([], 0) else (c.fin, 0) := by
  unfold labelS
  rw [if_neg (by rw [h]; decide), if_neg hn, show s.cs.length - 1 - n.toNat = k from by omega, hc]
theorem Label_any {a c : Value} {vals : List Int} {l : List CtV} {n : Int} {w : World} (ha : Row elB w a vals) (hc : Row elP w c l) (hn : w64 n) (hll : l.length ≤ 400000) (hel : ∀ p ∈ l, p.1.fin.length ≤ 1000000) :
    Calls Try.prog 21 #[.agg #[a, c], .int .i64 n] w (LabTold (labelS ⟨vals, l.map (·.1)⟩ n) w) := by
  have HC := Lib.hid hc
  have HB0 := Lib.hid (below_new w (.cells #[a, c] 30))
  have HS := Lib.hid (sane_any (ha.keep HB0.out) (hc.keep HB0.out))
  have HX := Lib.hid (fun W (hW : Below (w.alloc (.cells #[a, c] 30)).heap.size (w.alloc (.cells #[a, c] 30)) W) => box2_keep hW)
  obtain ⟨Pa, ca, rfl, _⟩ := ha.form
  obtain ⟨Pc, cc_, rfl, _⟩ := hc.form
  obtain ⟨nv, hnv⟩ : ∃ n, vals.length = n := ⟨_, rfl⟩
  obtain ⟨nl, hnl⟩ : ∃ n, l.length = n := ⟨_, rfl⟩
  have HNL := Lib.hid hnl
  have hml : (l.map (·.1)).length = nl := by rw [List.length_map, hnl]
  have HML := Lib.hid hml
  rw [hnv] at HB0 HS HX ⊢
  rw [hnl] at HB0 HS HX HC hll ⊢
  obtain ⟨R, hR⟩ : ∃ R, labelS ⟨vals, l.map (·.1)⟩ n = R := ⟨_, rfl⟩
  have HR := Lib.hid hR
  have HEL := Lib.hid hel
  rw [hR]
  clear ha hc hnv hnl hml hR hel
  cases hs : sane ⟨vals, l.map (·.1)⟩ with
  | false =>
    have HQ : Hid (R = ([], 1)) := HR.out.symm.trans (label_no hs)
    rw [hs] at HS
    clear hs
    go_enter Try.func21, Try.ntmps21
    go_wp2_with fail
    refine HS.out.mono ?_
    rintro e w1 ⟨rfl, hb⟩
    have HB1 := Lib.hid (HB0.out.trans (hb.mono HB0.out.size))
    clear hb HS
    go_wp2_with fail
    refine bodyPost_ret (v := .tuple #[.slice none 0 0, .int .i64 1]) (by simp [results, Try.results21, go_sem]) rfl ?_
    rw [HQ.out]
    exact ⟨⟨_, rfl, Row.nil _ _⟩, HB1.out⟩
  | true =>
    have HSN := Lib.hid hs
    rw [hs] at HS
    clear hs
    by_cases h0 : n < 0
    · have HQ : Hid (R = ([], 6)) := HR.out.symm.trans (label_out HSN.out (.inl h0))
      have t1 : decide (n < 0) = true := decide_eq_true h0
      clear h0
      go_enter Try.func21, Try.ntmps21
      go_wp2_with fail
      refine HS.out.mono ?_
      rintro e w1 ⟨rfl, hb⟩
      have HB1 := Lib.hid (HB0.out.trans (hb.mono HB0.out.size))
      clear hb HS
      go_wp2_with fail
      refine bodyPost_ret (v := .tuple #[.slice none 0 0, .int .i64 6]) (by simp [results, Try.results21, go_sem]) rfl ?_
      rw [HQ.out]
      exact ⟨⟨_, rfl, Row.nil _ _⟩, HB1.out⟩
    · have t1 : decide (n < 0) = false := decide_eq_false h0
      by_cases h1 : (nl : Int) ≤ n
      · have HQ : Hid (R = ([], 6)) := HR.out.symm.trans (label_out HSN.out (.inr (by show ((l.map (·.1)).length : Int) ≤ n; rw [HML.out]; exact h1)))
        have t2 : decide ((nl : Int) ≤ n) = true := decide_eq_true h1
        clear h0 h1
        go_enter Try.func21, Try.ntmps21
        go_wp2_with fail
        refine HS.out.mono ?_
        rintro e w1 ⟨rfl, hb⟩
        have HB1 := Lib.hid (HB0.out.trans (hb.mono HB0.out.size))
        obtain ⟨x0, x1⟩ := HX.out w1 hb
        clear hb HS
        go_wp2_with fail
        refine bodyPost_ret (v := .tuple #[.slice none 0 0, .int .i64 6]) (by simp [results, Try.results21, go_sem]) rfl ?_
        rw [HQ.out]
        exact ⟨⟨_, rfl, Row.nil _ _⟩, HB1.out⟩
      · have t2 : decide ((nl : Int) ≤ n) = false := decide_eq_false h1
        obtain ⟨k, hk⟩ : ∃ k : Nat, (k : Int) = nl - 1 - n := ⟨((nl : Int) - 1 - n).toNat, by omega⟩
        have hkl : k < nl := by omega
        obtain ⟨p, hp⟩ : ∃ p, l[k]? = some p := ⟨_, List.getElem?_eq_getElem (by rw [HNL.out]; exact hkl)⟩
        have hp' : (l.map (·.1))[k]? = some p.1 := by rw [List.getElem?_map, hp]; rfl
        have hq := HR.out.symm.trans (label_at HSN.out (by show ¬ (n < 0 ∨ ((l.map (·.1)).length : Int) ≤ n); rw [HML.out]; omega) (by show (k : Int) = ((l.map (·.1)).length : Int) - 1 - n; rw [HML.out]; exact hk) hp')
        have HP := Lib.hid hp
        have e1 : IntKind.i64.wrap ((nl : Int) - 1) = (nl : Int) - 1 := IntWalk.i64_in _ (by omega)
        have e2 : IntKind.i64.wrap ((nl : Int) - 1 - n) = (k : Int) := by rw [IntWalk.i64_in _ (by omega)]; omega
        have i1 : (0 : Int) ≤ (k : Int) := by omega
        have i2 : (k : Int) < (nl : Int) := by omega
        obtain ⟨op, hop⟩ : ∃ op, p.1.op = op := ⟨_, rfl⟩
        rw [hop] at hq
        have HOP := Lib.hid hop
        cases h3 : (op == 3) with
        | true =>
          have HQ : Hid (R = ([], 0)) := by show _ = _; rw [hq, if_pos (by simpa using h3)]
          clear h0 h1 hk hkl hp hp' hq hop
          go_enter Try.func21, Try.ntmps21
          go_wp2_with fail
          refine HS.out.mono ?_
          rintro e w1 ⟨rfl, hb⟩
          have HB1 := Lib.hid (HB0.out.trans (hb.mono HB0.out.size))
          obtain ⟨x0, x1⟩ := HX.out w1 hb
          obtain ⟨g, off, rfl, hg, k0, k1, k2, k3, hO⟩ := ctl_at (HC.out.keep HB1.out) HP.out
          obtain ⟨Pe, ce, hpe, _⟩ := hO.1.form
          rw [HOP.out] at k0
          rw [hpe] at k1
          obtain ⟨qq, hqq⟩ : ∃ qq, off + k * 4 = qq := ⟨_, rfl⟩
          rw [hqq] at k0 k1 k2 k3
          clear hb HS hg hO hpe
          go_wp2_with fail
          refine bodyPost_ret (v := .tuple #[.slice none 0 0, .int .i64 0]) (by simp [results, Try.results21, go_sem]) rfl ?_
          rw [HQ.out]
          exact ⟨⟨_, rfl, Row.nil _ _⟩, HB1.out.alloc HB1.out.size _⟩
        | false =>
          have HQ : Hid (R = (p.1.fin, 0)) := by show _ = _; rw [hq, if_neg (by simpa using h3)]
          clear h0 h1 hk hkl hp hp' hq hop
          go_enter Try.func21, Try.ntmps21
          go_wp2_with fail
          refine HS.out.mono ?_
          rintro e w1 ⟨rfl, hb⟩
          have HB1 := Lib.hid (HB0.out.trans (hb.mono HB0.out.size))
          obtain ⟨x0, x1⟩ := HX.out w1 hb
          obtain ⟨g, off, rfl, hg, k0, k1, k2, k3, hO⟩ := ctl_at (HC.out.keep HB1.out) HP.out
          obtain ⟨Pe, ce, hpe, _⟩ := hO.1.form
          obtain ⟨ht, hht⟩ : ∃ ht, p.1.ht = ht := ⟨_, rfl⟩
          obtain ⟨dd, hdd⟩ : ∃ dd, p.1.dead = dd := ⟨_, rfl⟩
          obtain ⟨ne, hne⟩ : ∃ ne, p.1.fin.length = ne := ⟨_, rfl⟩
          rw [hne] at hpe
          rw [HOP.out] at k0
          rw [hht] at k2
          rw [hdd] at k3
          obtain ⟨qq, hqq⟩ : ∃ qq, off + k * 4 = qq := ⟨_, rfl⟩
          rw [hqq] at k0 k1 k2 k3
          rw [hpe] at k1
          have HBn := Lib.hid (below_new w1 (.cells #[.int .i64 op, .slice Pe ne ce, .int .i64 ht, .bool dd] 46))
          have HCl := Lib.hid (clone_any (hO.1.keep HBn.out) (HEL.out p (List.mem_of_getElem? HP.out)))
          rw [hpe] at HCl
          clear hb HS hg hO hpe hht hdd hne
          go_wp2_with fail
          refine HCl.out.mono ?_
          rintro e w2 ⟨⟨v, rfl, ho⟩, hb2⟩
          have HRw := Lib.hid (ho.row (fun x hx => ((HC.out.2 p (List.mem_of_getElem? HP.out)).1.2 x hx)))
          have HB2 := Lib.hid ((HB1.out.trans (HBn.out.mono HB1.out.size)).trans (hb2.mono (HB1.out.trans (HBn.out.mono HB1.out.size)).size))
          obtain ⟨Pv, cv, rfl, _⟩ := HRw.out.form
          clear ho hb2
          go_wp2_with fail
          refine bodyPost_ret (v := .tuple #[.slice Pv p.1.fin.length cv, .int .i64 0]) (by simp [results, Try.results21, go_sem]) rfl ?_
          rw [HQ.out]
          exact ⟨⟨_, rfl, HRw.out⟩, HB2.out⟩
end Go.Proofs.Ytlappkflnlbfcaa.Stk
