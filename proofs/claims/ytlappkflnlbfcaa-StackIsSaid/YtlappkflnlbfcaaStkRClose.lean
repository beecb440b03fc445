/- The document's Close, walked (gen_rdoc.py). -/
import Derived.Test.YtlappkflnlbfcaaStkRWant
namespace Go.Proofs.Ytlappkflnlbfcaa.Stk
open Go.RowKit Row9
set_option maxRecDepth 100000
set_option maxHeartbeats 4000000
set_option linter.unusedVariables false
/-- What the document's Close ends with. -/
def RClose (r : Stk × Ctl × Int) (w : World) (e : Ending) (w' : World) : Prop := (∃ P n c Q m d R k f, e = .returned (.tuple #[.agg #[.slice P n c, .slice Q m d], .agg #[.int .i64 r.2.1.op, .slice R k f, .int .i64 r.2.1.ht, .bool r.2.1.dead], .int .i64 r.2.2]) ∧ StIs elD w' (.agg #[.slice P n c, .slice Q m d]) r.1 ∧ Row elB w' (.slice R k f) r.2.1.fin) ∧ Below w.heap.size w w'
theorem RClose.zero {w w' : World} {i : Int} (hb : Below w.heap.size w w') : RClose (none_, zeroC, i) w (.returned (.tuple #[.agg #[.slice none 0 0, .slice none 0 0], .agg #[.int .i64 0, .slice none 0 0, .int .i64 0, .bool false], .int .i64 i])) w' :=
  ⟨⟨_, _, _, _, _, _, _, _, _, rfl, StIs.none_ elD w', Row.nil _ _⟩, hb⟩
theorem sane_fin {s : Stk} {q : List Ctl} {c : Ctl} (hs : sane s = true) (h : s.cs = q ++ [c]) : mayE c.fin = true := by
  obtain ⟨z, h1, _⟩ := (sane_iff s).1 hs
  rw [h, sgo_append] at h1
  cases hq : sgo 0 q with
  | none => rw [hq] at h1; cases h1
  | some z' =>
    rw [hq] at h1
    simp only [sgo] at h1
    split at h1
    · rename_i hc
      rw [Bool.and_eq_true] at hc
      exact hc.1
    · cases h1
theorem close_notsane {s : Stk} (h : sane s = false) : closeS s = (none_, zeroC, 1) := by unfold closeS; rw [if_pos h]
theorem close_empty {s : Stk} (h : sane s = true) (hc : s.cs = []) : closeS s = (none_, zeroC, 5) := by
  unfold closeS
  rw [if_neg (by rw [h]; decide), hc]
  rfl
theorem close_last {s : Stk} {q : List Ctl} {c : Ctl} (h : sane s = true) (hc : s.cs = q ++ [c]) : closeS s = match wantV (some c) s.vals c.fin.reverse with
    | none => (none_, zeroC, 5)
    | some vs => if (vs.length : Int) ≠ c.ht then (none_, zeroC, 5) else (⟨vs, q⟩, c, 0) := by
  unfold closeS
  rw [if_neg (by rw [h]; decide), hc, List.getLast?_concat, List.dropLast_concat]
  rfl
theorem Row.take {α : Type} {T : El α} {w : World} {A : Option Addr} {n c : Nat} {l : List α} (h : Row T w (.slice A n c) l) (k : Nat) (hk : k ≤ l.length) : Row T w (.slice A k c) (l.take k) := by
  obtain ⟨⟨A', c', h1, h2, h3, h4⟩, h5⟩ := h
  injection h1 with e1 e2 e3
  subst e1 e3
  refine ⟨⟨A, c, by rw [List.length_take, Nat.min_eq_left hk], by rw [List.length_take]; omega, h3, fun h0 => ?_⟩, fun p hp => h5 p (List.mem_of_mem_take hp)⟩
  obtain ⟨g, off, e, hg, hB⟩ := h4 (fun e => h0 (by rw [e]; simp))
  refine ⟨g, off, e, hg, fun j p hj => hB j p ?_⟩
  rw [List.getElem?_take] at hj
  split at hj
  · exact hj
  · cases hj
/-- A block without bytes. -/
def No8 (w : World) (z : Nat) : Prop := ∀ i x, w.cell? ⟨z, i, none⟩ ≠ some (.int .u8 x)
theorem rowB_chg {w w' : World} {z : Nat} {v : Value} {l : List Int} (h : Row elB w v l) (hz : No8 w z) (hc : Chg w w' (some z)) (hs : w.heap.size ≤ w'.heap.size) : Row elB w' v l := by
  obtain ⟨⟨B, d, h1, h2, h3, h4⟩, h5⟩ := h
  refine ⟨⟨B, d, h1, h2, h3, fun h0 => ?_⟩, h5⟩
  obtain ⟨g, off, e, hg, hB⟩ := h4 h0
  have hgz : g ≠ z := by
    intro e
    subst e
    obtain ⟨p, hp⟩ : ∃ p, l[0]? = some p := by
      cases l with
      | nil => exact absurd rfl h0
      | cons p l => exact ⟨p, rfl⟩
    exact hz _ _ (hB 0 p hp 0 _ rfl)
  refine ⟨g, off, e, Nat.lt_of_lt_of_le hg hs, fun j p hj i' u' hu => ?_⟩
  have h6 := hB j p hj i' u' hu
  have h7 := hc g hg (by intro e; exact hgz (Option.some.inj e))
  simp only [World.cell?] at h6 ⊢
  rw [h7]
  exact h6
theorem no8_ctl {w : World} {z : Nat} {a b c d : Value} {t : TypeId} (h : w.heap[z]? = some (.cells #[a, b, c, d] t (0, 0))) (ha : ∀ x, a ≠ .int .u8 x) (hb : ∀ x, b ≠ .int .u8 x) (hc : ∀ x, c ≠ .int .u8 x) (hd : ∀ x, d ≠ .int .u8 x) : No8 w z := by
  intro i x
  rw [(cells_at h i).1]
  rcases i with _ | _ | _ | _ | i
  · simpa using ha x
  · simpa using hb x
  · simpa using hc x
  · simpa using hd x
  · simp
theorem chg_trans {a b c : World} {z : Option Nat} (h : Chg a b z) (h2 : Chg b c z) (hs : a.heap.size ≤ b.heap.size) : Chg a c z := fun k hk hne => (h2 k (Nat.lt_of_lt_of_le hk hs) hne).trans (h k hk hne)
theorem store4 {w : World} {z : Nat} {a0 b0 c0 d0 : Value} {t : TypeId} (h : w.heap[z]? = some (.cells #[a0, b0, c0, d0] t (0, 0))) (a b c d : Value) : ((((w.setCell ⟨z, 0, none⟩ a).setCell ⟨z, 1, none⟩ b).setCell ⟨z, 2, none⟩ c).setCell ⟨z, 3, none⟩ d).heap[z]? = some (.cells #[a, b, c, d] t (0, 0)) := by
  rw [set_heap (set_heap (set_heap (set_heap h _) _) _)]
  rfl
theorem size4 (w : World) (z : Nat) (a b c d : Value) : ((((w.setCell ⟨z, 0, none⟩ a).setCell ⟨z, 1, none⟩ b).setCell ⟨z, 2, none⟩ c).setCell ⟨z, 3, none⟩ d).heap.size = w.heap.size := by simp only [set_size]
theorem below_set4 {B z : Nat} {w w' : World} (h : Below B w w') (hz : B ≤ z) (a b c d : Value) : Below B w ((((w'.setCell ⟨z, 0, none⟩ a).setCell ⟨z, 1, none⟩ b).setCell ⟨z, 2, none⟩ c).setCell ⟨z, 3, none⟩ d) :=
  (((h.setCell (p := ⟨z, 0, none⟩) hz a).setCell (p := ⟨z, 1, none⟩) hz b).setCell (p := ⟨z, 2, none⟩) hz c).setCell (p := ⟨z, 3, none⟩) hz d
theorem blk2 {w w' : World} {z k : Nat} {o : Obj} (hc : Chg w w' (some z)) (h : w.heap[k]? = some o) (hne : k ≠ z) : w'.heap[k]? = some o := (hc k (lt_of_heap h) (fun e => hne (Option.some.inj e))).trans h
theorem rclose_any {v : Value} {s : Stk} {w : World} (h : StIs elD w v s) (h1 : s.vals.length ≤ 400000) (h2 : s.cs.length ≤ 400000) :
    Calls Try.prog 18 #[v] w (RClose (closeS s) w) := by
  obtain ⟨P, np, cp, Q, m, d, rfl⟩ := StIs.form (T := elD) h
  obtain ⟨l0, hrb0, hrc0, hml0, hnv, hnl0, hnc⟩ := h.rows
  have HB2 := Lib.hid (below3 w (.cells #[.slice P np cp, .slice Q m d] 25) (.cells #[.slice none 0 0, .slice none 0 0] 25) (.cells #[.int .i64 0, .slice none 0 0, .int .i64 0, .bool false] 49))
  have HBX := Lib.hid (blk (blk (heap_new w (.cells #[.slice P np cp, .slice Q m d] 25)) (below_new (w.alloc (.cells #[.slice P np cp, .slice Q m d] 25)) (.cells #[.slice none 0 0, .slice none 0 0] 25))) (below_new ((w.alloc (.cells #[.slice P np cp, .slice Q m d] 25)).alloc (.cells #[.slice none 0 0, .slice none 0 0] 25)) (.cells #[.int .i64 0, .slice none 0 0, .int .i64 0, .bool false] 49)))
  have HR := Lib.hid (blk (heap_new (w.alloc (.cells #[.slice P np cp, .slice Q m d] 25)) (.cells #[.slice none 0 0, .slice none 0 0] 25)) (below_new ((w.alloc (.cells #[.slice P np cp, .slice Q m d] 25)).alloc (.cells #[.slice none 0 0, .slice none 0 0] 25)) (.cells #[.int .i64 0, .slice none 0 0, .int .i64 0, .bool false] 49)))
  have HZ := Lib.hid (heap_new ((w.alloc (.cells #[.slice P np cp, .slice Q m d] 25)).alloc (.cells #[.slice none 0 0, .slice none 0 0] 25)) (.cells #[.int .i64 0, .slice none 0 0, .int .i64 0, .bool false] 49))
  have HV := Lib.hid (h.keep HB2.out)
  simp only [size_new] at HR HZ
  have HL1 := Lib.hid h1
  have HL2 := Lib.hid h2
  have HNC := Lib.hid hnc
  have HNV := Lib.hid hnv
  have HRC0 := Lib.hid (hrc0.keep HB2.out)
  have HRB0 := Lib.hid (hrb0.keep HB2.out)
  have HML0 := Lib.hid hml0
  obtain ⟨R, hR⟩ : ∃ R, closeS s = R := ⟨_, rfl⟩
  have HRR := Lib.hid hR
  rw [hR]
  have hbig : m ≤ 400000 := by omega
  have hbigv : np ≤ 400000 := by omega
  clear h h1 h2 hR hrb0 hrc0 hml0 hnv hnl0 hnc
  go_enter Try.func18, Try.ntmps18
  go_wp2_with fail
  generalize (((w.alloc (.cells #[.slice P np cp, .slice Q m d] 25)).alloc (.cells #[.slice none 0 0, .slice none 0 0] 25)).alloc (.cells #[.int .i64 0, .slice none 0 0, .int .i64 0, .bool false] 49)) = w2 at *
  obtain ⟨b, hb0⟩ : ∃ b, w.heap.size = b := ⟨_, rfl⟩
  obtain ⟨r, hr0⟩ : ∃ r, b + 1 = r := ⟨_, rfl⟩
  obtain ⟨z, hz0⟩ : ∃ z, r + 1 = z := ⟨_, rfl⟩
  have HBR : Hid (w.heap.size ≤ r) := Lib.hid (by omega)
  have HBN : Hid (b ≠ r) := Lib.hid (by omega)
  have HBB : Hid (w.heap.size ≤ b) := Lib.hid (by omega)
  have HBZ : Hid (w.heap.size ≤ z) := Lib.hid (by omega)
  have HRZ : Hid (r < z) := Lib.hid (by omega)
  rw [hb0] at HBX HR HZ
  rw [hr0] at HR HZ
  rw [hz0] at HZ
  simp only [hb0]
  simp only [hr0]
  simp only [hz0]
  clear hb0 hr0 hz0
  refine (rsane_any HV.out).mono ?_
  rintro e w3 ⟨rfl, hb⟩
  have HB3 := Lib.hid (HB2.out.trans (hb.mono HB2.out.size))
  have HV3 := Lib.hid (HV.out.keep hb)
  have HRC3 := Lib.hid (HRC0.out.keep hb)
  have HRB3 := Lib.hid (HRB0.out.keep hb)
  have HBX3 := Lib.hid (blk HBX.out hb)
  have HR3 := Lib.hid (blk HR.out hb)
  have HZ3 := Lib.hid (blk HZ.out hb)
  clear hb HV HBX HR HZ HB2 HRC0 HRB0
  obtain ⟨q0, q1⟩ := cells2 HR3.out
  have p0 := (cells_at HR3.out 0).2
  have p1 := (cells_at HR3.out 1).2
  have hrl : r < w3.heap.size := lt_of_heap HR3.out
  obtain ⟨z0, z1, z2, z3⟩ := cells4 HZ3.out
  have zp0 := (cells_at HZ3.out 0).2
  have zp1 := (cells_at HZ3.out 1).2
  have zp2 := (cells_at HZ3.out 2).2
  have zp3 := (cells_at HZ3.out 3).2
  have hzl : z < w3.heap.size := lt_of_heap HZ3.out
  have hrz : r ≠ z := by have := HRZ.out; omega
  have hzr : z ≠ r := Ne.symm hrz
  cases hs : sane s with
  | false =>
    have HQ : Hid (R = (none_, zeroC, 1)) := HRR.out.symm.trans (close_notsane hs)
    go_wp2_with fail
    obtain ⟨f0, f1⟩ := cells2 (store2 HR3.out (.slice none 0 0) (.slice none 0 0))
    obtain ⟨g0, g1, g2, g3⟩ := cells4 (store4 (chg_two (a := .slice none 0 0) (b := .slice none 0 0) HZ3.out HR3.out hzr) (.int .i64 0) (.slice none 0 0) (.int .i64 0) (.bool false))
    have hk := blk2 (chg4 ((w3.setCell ⟨r, 0, none⟩ (.slice none 0 0)).setCell ⟨r, 1, none⟩ (.slice none 0 0)) z (.int .i64 0) (.slice none 0 0) (.int .i64 0) (.bool false)) (store2 HR3.out (.slice none 0 0) (.slice none 0 0)) hrz
    obtain ⟨f0, f1⟩ := cells2 hk
    have HF := Lib.hid (below_set4 ((HB3.out.setCell (p := ⟨r, 0, none⟩) HBR.out (.slice none 0 0)).setCell (p := ⟨r, 1, none⟩) HBR.out (.slice none 0 0)) HBZ.out (.int .i64 0) (.slice none 0 0) (.int .i64 0) (.bool false))
    generalize (((((w3.setCell ⟨r, 0, none⟩ (.slice none 0 0)).setCell ⟨r, 1, none⟩ (.slice none 0 0)).setCell ⟨z, 0, none⟩ (.int .i64 0)).setCell ⟨z, 1, none⟩ (.slice none 0 0)).setCell ⟨z, 2, none⟩ (.int .i64 0)).setCell ⟨z, 3, none⟩ (.bool false) = wf at *
    clear q0 q1 p0 p1 z0 z1 z2 z3 zp0 zp1 zp2 zp3
    rw [HQ.out]
    exact bodyPost_ret (v := .tuple #[.agg #[.slice none 0 0, .slice none 0 0], .agg #[.int .i64 0, .slice none 0 0, .int .i64 0, .bool false], .int .i64 1]) (by simp [results, Try.results18, go_sem, f0, f1, g0, g1, g2, g3]) rfl (RClose.zero HF.out)
  | true =>
    have HS := Lib.hid hs
    clear hs
    obtain ⟨x0, x1⟩ := cells2 HBX3.out
    have hbl : b < w3.heap.size := lt_of_heap HBX3.out
    rcases last_cases s.cs with hcs | ⟨q, ctl, hcs⟩
    · have hm0 : m = 0 := by
        have := HNC.out
        rw [hcs] at this
        simpa using this.symm
      subst hm0
      have t3 : IntKind.i64.wrap (((0 : Nat) : Int) - 1) = -1 := by decide
      have HQ : Hid (R = (none_, zeroC, 5)) := HRR.out.symm.trans (close_empty HS.out hcs)
      go_wp2_with fail
      obtain ⟨f0, f1⟩ := cells2 (store2 HR3.out (.slice none 0 0) (.slice none 0 0))
      obtain ⟨g0, g1, g2, g3⟩ := cells4 (store4 (chg_two (a := .slice none 0 0) (b := .slice none 0 0) HZ3.out HR3.out hzr) (.int .i64 0) (.slice none 0 0) (.int .i64 0) (.bool false))
      have hk := blk2 (chg4 ((w3.setCell ⟨r, 0, none⟩ (.slice none 0 0)).setCell ⟨r, 1, none⟩ (.slice none 0 0)) z (.int .i64 0) (.slice none 0 0) (.int .i64 0) (.bool false)) (store2 HR3.out (.slice none 0 0) (.slice none 0 0)) hrz
      obtain ⟨f0, f1⟩ := cells2 hk
      have HF := Lib.hid (below_set4 ((HB3.out.setCell (p := ⟨r, 0, none⟩) HBR.out (.slice none 0 0)).setCell (p := ⟨r, 1, none⟩) HBR.out (.slice none 0 0)) HBZ.out (.int .i64 0) (.slice none 0 0) (.int .i64 0) (.bool false))
      generalize (((((w3.setCell ⟨r, 0, none⟩ (.slice none 0 0)).setCell ⟨r, 1, none⟩ (.slice none 0 0)).setCell ⟨z, 0, none⟩ (.int .i64 0)).setCell ⟨z, 1, none⟩ (.slice none 0 0)).setCell ⟨z, 2, none⟩ (.int .i64 0)).setCell ⟨z, 3, none⟩ (.bool false) = wf at *
      clear q0 q1 p0 p1 z0 z1 z2 z3 zp0 zp1 zp2 zp3 x0 x1
      rw [HQ.out]
      exact bodyPost_ret (v := .tuple #[.agg #[.slice none 0 0, .slice none 0 0], .agg #[.int .i64 0, .slice none 0 0, .int .i64 0, .bool false], .int .i64 5]) (by simp [results, Try.results18, go_sem, f0, f1, g0, g1, g2, g3]) rfl (RClose.zero HF.out)
    · have hm1 : m = q.length + 1 := by rw [← HNC.out, hcs]; simp
      have HCS := Lib.hid hcs
      have HQ0 := Lib.hid (HRR.out.symm.trans (close_last HS.out hcs))
      have HFN := Lib.hid (sane_fin HS.out hcs)
      obtain ⟨k, hk⟩ : ∃ k, q.length = k := ⟨_, rfl⟩
      have HK := Lib.hid hk
      have hmk : m = k + 1 := by omega
      subst hmk
      have t3 : IntKind.i64.wrap (((k + 1 : Nat) : Int) - 1) = (k : Int) := by rw [IntWalk.i64_in _ (by omega)]; omega
      have t4 : decide ((k : Int) < 0) = false := decide_eq_false (by omega)
      obtain ⟨pp, hpp, hpc⟩ : ∃ pp, l0[k]? = some pp ∧ pp.1 = ctl := by
        have e : (l0.map (·.1))[k]? = some ctl := by rw [HML0.out, hcs, ← HK.out]; simp
        rw [List.getElem?_map] at e
        cases hq : l0[k]? with
        | none => rw [hq] at e; cases e
        | some pp => rw [hq] at e; exact ⟨pp, rfl, Option.some.inj e⟩
      obtain ⟨g, off, hQe, hg, k0, k1, k2, k3, hO⟩ := ctl_at HRC3.out hpp
      obtain ⟨Rf, cf, hpf, _⟩ := hO.1.form
      have hrow := hO.1
      rw [hpf] at k1 hrow
      rw [hpc] at k0 k1 k2 k3 hrow
      subst hQe
      obtain ⟨nf, hnf⟩ : ∃ nf, ctl.fin.length = nf := ⟨_, rfl⟩
      rw [hnf] at k1 hrow
      have HROW := Lib.hid hrow
      obtain ⟨ht, hht⟩ : ∃ ht, ctl.ht = ht := ⟨_, rfl⟩
      rw [hht] at k2
      have HHT := Lib.hid hht
      obtain ⟨op, hop⟩ : ∃ op, ctl.op = op := ⟨_, rfl⟩
      rw [hop] at k0
      have HOP := Lib.hid hop
      obtain ⟨dd, hdd⟩ : ∃ dd, ctl.dead = dd := ⟨_, rfl⟩
      rw [hdd] at k3
      have HDD := Lib.hid hdd
      obtain ⟨qq, hqq⟩ : ∃ qq, off + k * 4 = qq := ⟨_, rfl⟩
      rw [hqq] at k0 k1 k2 k3
      have i1 : (0 : Int) ≤ (k : Int) := by omega
      have i2 : (k : Int) < ((k + 1 : Nat) : Int) := by omega
      have HRl : Hid (r < w3.heap.size) := hrl
      have HZl : Hid (z < w3.heap.size) := hzl
      have HBn := Lib.hid (below_new w3 (.cells #[.int .i64 op, .slice Rf nf cf, .int .i64 ht, .bool dd] 49))
      have HB4 := Lib.hid (HB3.out.trans (HBn.out.mono HB3.out.size))
      have HV4 := Lib.hid (HV3.out.keep HBn.out)
      have HW4 := Lib.hid (HROW.out.keep HBn.out)
      have HX4 := Lib.hid (blk HBX3.out HBn.out)
      have HR4 := Lib.hid (blk HR3.out HBn.out)
      have HZ4 := Lib.hid (blk HZ3.out HBn.out)
      have HY4 := Lib.hid (heap_new w3 (.cells #[.int .i64 op, .slice Rf nf cf, .int .i64 ht, .bool dd] 49))
      have hfl := mayE_len HFN.out
      have HFL : Hid (ctl.fin.length ≤ 400000) := Lib.hid (by omega)
      clear hcs hm1 hk q0 q1 p0 p1 hrl hpp hpc hO hpf hrow hnf hht hop hdd hg z0 z1 z2 z3 zp0 zp1 zp2 zp3 hzl hfl
      obtain ⟨yv0, yv1⟩ := cells2 HX4.out
      obtain ⟨y0, y1, y2, y3⟩ := cells4 HY4.out
      go_wp2_with fail
      clear x0 x1 yv0 yv1 y0 y1 y2 y3 k0 k1 k2 k3
      generalize w3.alloc (.cells #[.int .i64 op, .slice Rf nf cf, .int .i64 ht, .bool dd] 49) = w4 at *
      obtain ⟨y, hy⟩ : ∃ y, w3.heap.size = y := ⟨_, rfl⟩
      rw [hy] at HY4 HRl HZl
      simp only [hy]
      refine (rwant_eo HV4.out HW4.out HL1.out HL2.out HFL.out).mono ?_
      rintro e w5 ⟨⟨P5, n5, c5, Q5, m5, d5, l, rfl, he1, he2, hml, hok, hck⟩, hb⟩
      have hy4 : y < w4.heap.size := lt_of_heap HY4.out
      have HBo := Lib.hid (hb.trans ((below_new w5 (.cells #[.slice P5 n5 c5, .slice Q5 m5 d5] 25)).mono hb.size))
      have HB6 := Lib.hid (HB4.out.trans (HBo.out.mono HB4.out.size))
      have HE1 := Lib.hid (he1.keep (below_new w5 (.cells #[.slice P5 n5 c5, .slice Q5 m5 d5] 25)))
      have HE2 := Lib.hid (he2.keep (below_new w5 (.cells #[.slice P5 n5 c5, .slice Q5 m5 d5] 25)))
      have HO6 := Lib.hid (heap_new w5 (.cells #[.slice P5 n5 c5, .slice Q5 m5 d5] 25))
      have HR6 := Lib.hid (blk HR4.out HBo.out)
      have HZ6 := Lib.hid (blk HZ4.out HBo.out)
      have HY6 := Lib.hid (blk HY4.out HBo.out)
      have HW6 := Lib.hid (HW4.out.keep HBo.out)
      have HML := Lib.hid hml
      have HOK := Lib.hid hok
      have HCK : Hid (∀ p ∈ l, CtOk (w5.alloc (.cells #[.slice P5 n5 c5, .slice Q5 m5 d5] 25)) p) := fun p hp => (hck p hp).keep (below_new w5 _)
      have HO5 : Hid (w4.heap.size ≤ w5.heap.size) := hb.size
      have HY5 : Hid (y < w4.heap.size) := hy4
      clear hb he1 he2 hml hok hck hy4 HV4 HW4 HX4 HR4 HZ4 HY4 HB4 hy
      have HWS := Lib.hid (want_sane (xs := ctl.fin) HS.out)
      rw [HCS.out, List.getLast?_concat] at HWS
      cases hwv : wantV (some ctl) s.vals ctl.fin.reverse with
      | none =>
        rw [hwv] at HQ0 HWS
        have e5 : (wantS s ctl.fin).2 = 5 := by rw [HWS.out]
        rw [e5]
        clear hwv e5 HWS
        obtain ⟨o0, o1⟩ := cells2 HO6.out
        obtain ⟨y0, y1, y2, y3⟩ := cells4 HY6.out
        obtain ⟨z0, z1, z2, z3⟩ := cells4 HZ6.out
        have zp0 := (cells_at HZ6.out 0).2
        have zp1 := (cells_at HZ6.out 1).2
        have zp2 := (cells_at HZ6.out 2).2
        have zp3 := (cells_at HZ6.out 3).2
        have hzl : z < (w5.alloc (.cells #[.slice P5 n5 c5, .slice Q5 m5 d5] 25)).heap.size := lt_of_heap HZ6.out
        obtain ⟨q0, q1⟩ := cells2 HR6.out
        have p0 := (cells_at HR6.out 0).2
        have p1 := (cells_at HR6.out 1).2
        have hrl : r < (w5.alloc (.cells #[.slice P5 n5 c5, .slice Q5 m5 d5] 25)).heap.size := lt_of_heap HR6.out
        have HQ : Hid (R = (none_, zeroC, 5)) := HQ0.out
        go_wp2_with fail
        obtain ⟨f0, f1⟩ := cells2 (store2 HR6.out (.slice none 0 0) (.slice none 0 0))
        obtain ⟨g0, g1, g2, g3⟩ := cells4 (store4 (chg_two (a := .slice none 0 0) (b := .slice none 0 0) HZ6.out HR6.out hzr) (.int .i64 0) (.slice none 0 0) (.int .i64 0) (.bool false))
        have hk := blk2 (chg4 (((w5.alloc (.cells #[.slice P5 n5 c5, .slice Q5 m5 d5] 25)).setCell ⟨r, 0, none⟩ (.slice none 0 0)).setCell ⟨r, 1, none⟩ (.slice none 0 0)) z (.int .i64 0) (.slice none 0 0) (.int .i64 0) (.bool false)) (store2 HR6.out (.slice none 0 0) (.slice none 0 0)) hrz
        obtain ⟨f0, f1⟩ := cells2 hk
        have HF := Lib.hid (below_set4 ((HB6.out.setCell (p := ⟨r, 0, none⟩) HBR.out (.slice none 0 0)).setCell (p := ⟨r, 1, none⟩) HBR.out (.slice none 0 0)) HBZ.out (.int .i64 0) (.slice none 0 0) (.int .i64 0) (.bool false))
        generalize ((((((w5.alloc (.cells #[.slice P5 n5 c5, .slice Q5 m5 d5] 25)).setCell ⟨r, 0, none⟩ (.slice none 0 0)).setCell ⟨r, 1, none⟩ (.slice none 0 0)).setCell ⟨z, 0, none⟩ (.int .i64 0)).setCell ⟨z, 1, none⟩ (.slice none 0 0)).setCell ⟨z, 2, none⟩ (.int .i64 0)).setCell ⟨z, 3, none⟩ (.bool false) = wf at *
        clear q0 q1 p0 p1 z0 z1 z2 z3 zp0 zp1 zp2 zp3 o0 o1 y0 y1 y2 y3
        rw [HQ.out]
        exact bodyPost_ret (v := .tuple #[.agg #[.slice none 0 0, .slice none 0 0], .agg #[.int .i64 0, .slice none 0 0, .int .i64 0, .bool false], .int .i64 5]) (by simp [results, Try.results18, go_sem, f0, f1, g0, g1, g2, g3]) rfl (RClose.zero HF.out)
      | some vs =>
        rw [hwv] at HQ0 HWS
        have e5 : (wantS s ctl.fin).2 = 0 := by rw [HWS.out]
        have e6 : (wantS s ctl.fin).1 = ⟨vs, q ++ [ctl]⟩ := by rw [HWS.out, ← HCS.out]
        rw [e6] at HE1 HML HOK
        rw [e5]
        obtain ⟨o0, o1⟩ := cells2 HO6.out
        obtain ⟨y0, y1, y2, y3⟩ := cells4 HY6.out
        obtain ⟨z0, z1, z2, z3⟩ := cells4 HZ6.out
        have zp0 := (cells_at HZ6.out 0).2
        have zp1 := (cells_at HZ6.out 1).2
        have zp2 := (cells_at HZ6.out 2).2
        have zp3 := (cells_at HZ6.out 3).2
        have hzl : z < (w5.alloc (.cells #[.slice P5 n5 c5, .slice Q5 m5 d5] 25)).heap.size := lt_of_heap HZ6.out
        obtain ⟨q0, q1⟩ := cells2 HR6.out
        have p0 := (cells_at HR6.out 0).2
        have p1 := (cells_at HR6.out 1).2
        have hrl : r < (w5.alloc (.cells #[.slice P5 n5 c5, .slice Q5 m5 d5] 25)).heap.size := lt_of_heap HR6.out
        have hn5 : vs.length = n5 := by
          obtain ⟨A, c', e⟩ := HE1.out.form
          injection e with _ e1 _
          exact e1.symm
        have hm5 : m5 = k + 1 := by
          obtain ⟨A, c', e⟩ := HE2.out.form
          injection e with _ e1 _
          rw [e1, ← List.length_map (f := (·.1)), HML.out, List.length_append, HK.out]
          rfl
        subst hm5
        by_cases hlt : (n5 : Int) = ht
        · have HQ : Hid (R = (⟨vs, q⟩, ctl, 0)) := by
            show _ = _
            rw [HQ0.out]
            show (if (vs.length : Int) ≠ ctl.ht then (none_, zeroC, 5) else (⟨vs, q⟩, ctl, 0)) = _
            rw [if_neg (by rw [hn5, HHT.out]; simpa using hlt)]
          have t6 : ((n5 : Int) != ht) = false := by simpa using hlt
          have hcap : k ≤ d5 ∧ l.length = k + 1 := by
            obtain ⟨A, c', e, e2, _⟩ := (HE2.out.row HCK.out).form
            injection e with _ e1 e3
            subst e3
            exact ⟨by omega, e1.symm⟩
          have HLL : Hid (l.length = k + 1) := hcap.2
          have j1 : (0 : Int) ≤ (k : Int) := by omega
          have j2 : (k : Int) ≤ (d5 : Int) := by have := hcap.1; omega
          have j2' : k ≤ d5 := hcap.1
          have op1 := (cells_at HO6.out 1).2
          have hol : w5.heap.size < (w5.alloc (.cells #[.slice P5 n5 c5, .slice Q5 (k + 1) d5] 25)).heap.size := lt_of_heap HO6.out
          clear hwv e5 e6 HWS hn5 hlt hcap
          go_wp2_with fail
          clear o0 o1 op1 y0 y1 y2 y3 z0 z1 z2 z3 zp0 zp1 zp2 zp3 hzl q0 q1 p0 p1 hrl hol
          have hE : w5.alloc (.cells #[.slice P5 n5 c5, .slice Q5 k d5] 25) = (w5.alloc (.cells #[.slice P5 n5 c5, .slice Q5 (k + 1) d5] 25)).setCell ⟨w5.heap.size, 1, none⟩ (.slice Q5 k d5) := by go_simp
          rw [hE]
          clear hE
          obtain ⟨o, ho⟩ : ∃ o, w5.heap.size = o := ⟨_, rfl⟩
          generalize w5.alloc (.cells #[.slice P5 n5 c5, .slice Q5 (k + 1) d5] 25) = w6 at *
          rw [ho] at HO6 HO5
          simp only [ho]
          clear ho
          have hro : r ≠ o := by have := HRl.out; have := HO5.out; have := HY5.out; omega
          have hzo : z ≠ o := by have := HZl.out; have := HO5.out; have := HY5.out; omega
          have hyo : y ≠ o := by have := HO5.out; have := HY5.out; omega
          have hor := Ne.symm hro
          have hry : r ≠ y := by have := HRl.out; omega
          have hzy : z ≠ y := by have := HZl.out; omega
          have hyr := Ne.symm hry
          have hyz := Ne.symm hzy
          have HO7 : Hid ((w6.setCell ⟨o, 1, none⟩ (.slice Q5 k d5)).heap[o]? = some (.cells #[.slice P5 n5 c5, .slice Q5 k d5] 25 (0, 0))) := by
            show _ = _
            rw [set_heap HO6.out]
            rfl
          have HR7 := Lib.hid (chgT_low (u := .slice Q5 k d5) HR6.out (o := o) (i := 1) hro)
          have HZ7 := Lib.hid (chgT_low (u := .slice Q5 k d5) HZ6.out (o := o) (i := 1) hzo)
          have HY7 := Lib.hid (chgT_low (u := .slice Q5 k d5) HY6.out (o := o) (i := 1) hyo)
          have HE71 := Lib.hid (HE1.out.other (chgT_set (i := 1) (u := .slice Q5 k d5) HO6.out) (by decide))
          have HE72 := Lib.hid ((HE2.out.take k (by omega)).other (chgT_set (i := 1) (u := .slice Q5 k d5) HO6.out) (by decide))
          have HC7 : Hid (∀ p ∈ l, CtOk (w6.setCell ⟨o, 1, none⟩ (.slice Q5 k d5)) p) := fun p hp => ctok_box (HCK.out p hp) HO6.out
          have HW7 := Lib.hid (rowB_box (u := .slice Q5 k d5) (i := 1) HW6.out HO6.out)
          have HB7 := Lib.hid (HB6.out.setCell (p := ⟨o, 1, none⟩) (by have := HB3.out.size; have := HO5.out; have := HY5.out; have := HRl.out; have := HBR.out; show _ ≤ o; omega) (.slice Q5 k d5))
          generalize w6.setCell ⟨o, 1, none⟩ (.slice Q5 k d5) = w7 at *
          clear HO6 HR6 HZ6 HY6 HE1 HE2 HCK HW6 HB6
          obtain ⟨o0, o1⟩ := cells2 HO7.out
          obtain ⟨y0, y1, y2, y3⟩ := cells4 HY7.out
          obtain ⟨z0, z1, z2, z3⟩ := cells4 HZ7.out
          have zp0 := (cells_at HZ7.out 0).2
          have zp1 := (cells_at HZ7.out 1).2
          have zp2 := (cells_at HZ7.out 2).2
          have zp3 := (cells_at HZ7.out 3).2
          have hzl : z < w7.heap.size := lt_of_heap HZ7.out
          obtain ⟨q0, q1⟩ := cells2 HR7.out
          have p0 := (cells_at HR7.out 0).2
          have p1 := (cells_at HR7.out 1).2
          have hrl : r < w7.heap.size := lt_of_heap HR7.out
          go_region
          have HR8 := Lib.hid (store2 HR7.out (.slice P5 n5 c5) (.slice Q5 k d5))
          have HZ8 := Lib.hid (chg_two (a := .slice P5 n5 c5) (b := .slice Q5 k d5) HZ7.out HR7.out hzr)
          have HE81 := Lib.hid ((HE71.out.other (chgT_set (i := 0) (u := .slice P5 n5 c5) HR7.out) (by decide)).other (chgT_set (i := 1) (u := .slice Q5 k d5) (set_heap HR7.out _)) (by decide))
          have HE82 := Lib.hid ((HE72.out.other (chgT_set (i := 0) (u := .slice P5 n5 c5) HR7.out) (by decide)).other (chgT_set (i := 1) (u := .slice Q5 k d5) (set_heap HR7.out _)) (by decide))
          have HC8 : Hid (∀ p ∈ l, CtOk ((w7.setCell ⟨r, 0, none⟩ (.slice P5 n5 c5)).setCell ⟨r, 1, none⟩ (.slice Q5 k d5)) p) := fun p hp => ctok_box (ctok_box (HC7.out p hp) HR7.out) (set_heap HR7.out _)
          have HW8 := Lib.hid (rowB_box (u := .slice Q5 k d5) (i := 1) (rowB_box (u := .slice P5 n5 c5) (i := 0) HW7.out HR7.out) (set_heap HR7.out _))
          have HB8 := Lib.hid ((HB7.out.setCell (p := ⟨r, 0, none⟩) HBR.out (.slice P5 n5 c5)).setCell (p := ⟨r, 1, none⟩) HBR.out (.slice Q5 k d5))
          generalize (w7.setCell ⟨r, 0, none⟩ (.slice P5 n5 c5)).setCell ⟨r, 1, none⟩ (.slice Q5 k d5) = w8 at *
          clear o0 o1 y0 y1 y2 y3 z0 z1 z2 z3 zp0 zp1 zp2 zp3 hzl q0 q1 p0 p1 hrl
          have HCH := Lib.hid (chg4 w8 z (.int .i64 op) (.slice Rf nf cf) (.int .i64 ht) (.bool dd))
          have HN8 := Lib.hid (no8_ctl HZ8.out (by intro x; simp) (by intro x; simp) (by intro x; simp) (by intro x; simp))
          have HS8 := Lib.hid (size4 w8 z (.int .i64 op) (.slice Rf nf cf) (.int .i64 ht) (.bool dd))
          have HF := Lib.hid (below_set4 HB8.out HBZ.out (.int .i64 op) (.slice Rf nf cf) (.int .i64 ht) (.bool dd))
          obtain ⟨g0, g1, g2, g3⟩ := cells4 (store4 HZ8.out (.int .i64 op) (.slice Rf nf cf) (.int .i64 ht) (.bool dd))
          obtain ⟨f0, f1⟩ := cells2 (blk2 HCH.out HR8.out hrz)
          generalize (((w8.setCell ⟨z, 0, none⟩ (.int .i64 op)).setCell ⟨z, 1, none⟩ (.slice Rf nf cf)).setCell ⟨z, 2, none⟩ (.int .i64 ht)).setCell ⟨z, 3, none⟩ (.bool dd) = w9 at *
          have hsz : w8.heap.size ≤ w9.heap.size := Nat.le_of_eq HS8.out.symm
          have hk9 : ∀ k', w4.heap.size ≤ k' → k' < w8.heap.size → w9.heap[k']? = w8.heap[k']? := fun k' h1 h2 => HCH.out k' h2 (by intro e; have := Option.some.inj e; have := HZl.out; have := HY5.out; omega)
          have HG1 := Lib.hid ((HE81.out.stay hk9).keep (below_drew1 _))
          have HG2 := Lib.hid ((HE82.out.stay hk9).keep (below_drew1 _))
          have HGC : Hid (∀ p ∈ l.take k, CtOk w9.drew p) := fun p hp => CtOk.keep ⟨rowB_chg (HC8.out p (List.mem_of_mem_take hp)).1 HN8.out HCH.out hsz, (HC8.out p (List.mem_of_mem_take hp)).2⟩ (below_drew1 _)
          have HGW := Lib.hid ((rowB_chg HW8.out HN8.out HCH.out hsz).keep (below_drew1 _))
          have HFD := Lib.hid (HF.out.drew)
          have f0 : w9.drew.cell? ⟨r, 0, none⟩ = some (.slice P5 n5 c5) := f0
          have f1 : w9.drew.cell? ⟨r, 1, none⟩ = some (.slice Q5 k d5) := f1
          have g0 : w9.drew.cell? ⟨z, 0, none⟩ = some (.int .i64 op) := g0
          have g1 : w9.drew.cell? ⟨z, 1, none⟩ = some (.slice Rf nf cf) := g1
          have g2 : w9.drew.cell? ⟨z, 2, none⟩ = some (.int .i64 ht) := g2
          have g3 : w9.drew.cell? ⟨z, 3, none⟩ = some (.bool dd) := g3
          generalize w9.drew = wf at *
          clear hsz hk9
          go_wp2_with fail
          rw [HQ.out]
          have hlm : (l.take k).map (·.1) = q := by rw [List.map_take, HML.out, ← HK.out, List.take_left]
          exact bodyPost_ret (v := .tuple #[.agg #[.slice P5 n5 c5, .slice Q5 k d5], .agg #[.int .i64 op, .slice Rf nf cf, .int .i64 ht, .bool dd], .int .i64 0]) (by simp [results, Try.results18, go_sem, f0, f1, g0, g1, g2, g3]) rfl ⟨⟨_, _, _, _, _, _, Rf, nf, cf, by rw [HOP.out, HHT.out, HDD.out], ⟨_, _, l.take k, rfl, HG1.out.row HOK.out, HG2.out.row HGC.out, hlm⟩, HGW.out⟩, HFD.out⟩
        · have t6 : ((n5 : Int) != ht) = true := by simpa using hlt
          have HQn : Hid (R = (none_, zeroC, 5)) := by
            show _ = _
            rw [HQ0.out]
            show (if (vs.length : Int) ≠ ctl.ht then (none_, zeroC, 5) else (⟨vs, q⟩, ctl, 0)) = _
            rw [if_pos (by rw [hn5, HHT.out]; exact hlt)]
          clear hwv e5 e6 HWS hn5 hlt HQ0
          have HQ : Hid (R = (none_, zeroC, 5)) := HQn.out
          go_wp2_with fail
          obtain ⟨f0, f1⟩ := cells2 (store2 HR6.out (.slice none 0 0) (.slice none 0 0))
          obtain ⟨g0, g1, g2, g3⟩ := cells4 (store4 (chg_two (a := .slice none 0 0) (b := .slice none 0 0) HZ6.out HR6.out hzr) (.int .i64 0) (.slice none 0 0) (.int .i64 0) (.bool false))
          have hk := blk2 (chg4 (((w5.alloc (.cells #[.slice P5 n5 c5, .slice Q5 (k + 1) d5] 25)).setCell ⟨r, 0, none⟩ (.slice none 0 0)).setCell ⟨r, 1, none⟩ (.slice none 0 0)) z (.int .i64 0) (.slice none 0 0) (.int .i64 0) (.bool false)) (store2 HR6.out (.slice none 0 0) (.slice none 0 0)) hrz
          obtain ⟨f0, f1⟩ := cells2 hk
          have HF := Lib.hid (below_set4 ((HB6.out.setCell (p := ⟨r, 0, none⟩) HBR.out (.slice none 0 0)).setCell (p := ⟨r, 1, none⟩) HBR.out (.slice none 0 0)) HBZ.out (.int .i64 0) (.slice none 0 0) (.int .i64 0) (.bool false))
          generalize ((((((w5.alloc (.cells #[.slice P5 n5 c5, .slice Q5 (k + 1) d5] 25)).setCell ⟨r, 0, none⟩ (.slice none 0 0)).setCell ⟨r, 1, none⟩ (.slice none 0 0)).setCell ⟨z, 0, none⟩ (.int .i64 0)).setCell ⟨z, 1, none⟩ (.slice none 0 0)).setCell ⟨z, 2, none⟩ (.int .i64 0)).setCell ⟨z, 3, none⟩ (.bool false) = wf at *
          clear q0 q1 p0 p1 z0 z1 z2 z3 zp0 zp1 zp2 zp3 o0 o1 y0 y1 y2 y3
          rw [HQ.out]
          exact bodyPost_ret (v := .tuple #[.agg #[.slice none 0 0, .slice none 0 0], .agg #[.int .i64 0, .slice none 0 0, .int .i64 0, .bool false], .int .i64 5]) (by simp [results, Try.results18, go_sem, f0, f1, g0, g1, g2, g3]) rfl (RClose.zero HF.out)
end Go.Proofs.Ytlappkflnlbfcaa.Stk
