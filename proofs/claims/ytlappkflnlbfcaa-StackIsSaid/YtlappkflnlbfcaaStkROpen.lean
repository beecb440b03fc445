/- The document's Open, walked (gen_rdoc.py). -/
import Derived.Test.YtlappkflnlbfcaaStkRClose
import Derived.Deep.RegionLaw
namespace Go.Proofs.Ytlappkflnlbfcaa.Stk
open Go.RowKit Row9
set_option maxRecDepth 100000
set_option maxHeartbeats 4000000
set_option linter.unusedVariables false
theorem open_notsane {s : Stk} {op : Int} {xs : List Int} (h : sane s = false) : openS s op xs = (none_, 1) := by unfold openS; rw [if_pos h]
theorem open_no {s : Stk} {op : Int} {xs : List Int} (h : sane s = true) (hm : mayE xs = false) : openS s op xs = (none_, 1) := by unfold openS; rw [if_neg (by rw [h]; decide), if_pos hm]
/-- 'append' to a row of the call's own or to a literal, as a step of a region that draws its order. -/
theorem step_appT {α : Type} (T : El α) {ops : Array Oper} {o : Oper} {a : Act} {K : Act → World → Prop} {Q : Exit → Act → World → Prop} {E : Prop} (t : TypeId) (ht : Try.prog.underlying t = some (.slice T.e)) (w : World) (hgd : o.guard = none) (s x : Operand)
    (ho : o.op = .call { callee := .builtin .append, args := #[s, x], argTypes := #[t, t] }) (B : Nat) (v x' : Value) (done l : List α) (m : Nat) (hs : a.eval s = v) (hx : a.eval x = x') (hown : EO T w B v done)
    (hl : Row T w x' l) (hm : done.length + l.length = m) (hlen : m ≤ 1000000) (hby : T.bytes ≤ 100) (hB : B ≤ w.heap.size)
    (h : ∀ P c w', EO T w' B (.slice P m c) (done ++ l) → Below B w w' → ChgT T.e w w' → K (a.put o.dst (.slice P m c)) w') : if Region.wanted o (yielded ops a.tmps) = true then Oper.wp Try.prog o a w K Q else E := by
  have hw : Region.wanted o (yielded ops a.tmps) = true := by simp [Region.wanted, hgd]
  rw [if_pos hw]
  obtain ⟨v', w', hr, h1, h2, h3⟩ := run_appT T t ht w o.type B v x' done l hown hl (by omega) hby hB
  obtain ⟨P, c, hv⟩ := h1.form
  rw [List.length_append, hm] at hv
  subst hv
  unfold Oper.wp execOp
  simp only [ho, resolve, invoke, builtin, Sem.run_bind, Sem.run_pure, Result.andThen_ok, List.map_toArray, List.map_cons, List.map_nil, hs, hx, hr]
  exact h P c w' h1 h2 h3
theorem row_newD {w : World} {op ht : Int} {d : Bool} {f : List Int} {u : Value} (h : CtOk w (⟨op, f, ht, d⟩, u)) : Row elD (w.alloc (.cells #[.int .i64 op, u, .int .i64 ht, .bool d] 49)) (.slice (some ⟨w.heap.size, 0, none⟩) 1 1) [(⟨op, f, ht, d⟩, u)] := by
  refine ⟨⟨_, 1, rfl, Nat.le_refl _, by omega, fun _ => ⟨w.heap.size, 0, rfl, by rw [size_new]; omega, fun j p hj => ?_⟩⟩, fun p hp => ?_⟩
  · rcases j with _ | j
    · obtain rfl := Option.some.inj hj
      rw [Nat.zero_mul, Nat.add_zero]
      exact newG' elD w (⟨op, f, ht, d⟩, u) #[.int .i64 op, u, .int .i64 ht, .bool d] _ rfl rfl
    · simp at hj
  · obtain rfl := List.mem_singleton.1 hp
    exact h.keep (below_new w _)
theorem ropen_any {v x : Value} {s : Stk} {op : Int} {xs : List Int} {w : World} (h : StIs elD w v s) (hx : Row elB w x xs) (ho : w64 op) (h1 : s.vals.length ≤ 400000) (h2 : s.cs.length ≤ 400000) (h3 : xs.length ≤ 400000) :
    Calls Try.prog 16 #[v, .int .i64 op, x] w (ROp (openS s op xs) w) := by
  obtain ⟨Px, cx, rfl, hxc, _⟩ := hx.form
  obtain ⟨nx, hnx⟩ : ∃ n, xs.length = n := ⟨_, rfl⟩
  rw [hnx] at hx hxc h3 ⊢
  have HNX := Lib.hid hnx
  have HX := Lib.hid hx
  have HOPW := Lib.hid ho
  have HL3 := Lib.hid h3
  clear hnx hx ho h3
  obtain ⟨P, np, cp, Q, m, d, rfl⟩ := StIs.form (T := elD) h
  obtain ⟨l0, hrb0, hrc0, hml0, hnv, hnl0, hnc⟩ := h.rows
  have HB2 := Lib.hid (below2 w (.cells #[.slice P np cp, .slice Q m d] 25) (.cells #[.slice none 0 0, .slice none 0 0] 25))
  have HBX := Lib.hid (blk (heap_new w (.cells #[.slice P np cp, .slice Q m d] 25)) (below_new (w.alloc (.cells #[.slice P np cp, .slice Q m d] 25)) (.cells #[.slice none 0 0, .slice none 0 0] 25)))
  have HR := Lib.hid (heap_new (w.alloc (.cells #[.slice P np cp, .slice Q m d] 25)) (.cells #[.slice none 0 0, .slice none 0 0] 25))
  have HV := Lib.hid (h.keep HB2.out)
  simp only [size_new] at HR
  have HL1 := Lib.hid h1
  have HL2 := Lib.hid h2
  have HNC := Lib.hid hnc
  have HNV := Lib.hid hnv
  have HRC0 := Lib.hid (hrc0.keep HB2.out)
  have HRB0 := Lib.hid (hrb0.keep HB2.out)
  have HML0 := Lib.hid hml0
  obtain ⟨R, hR⟩ : ∃ R, openS s op xs = R := ⟨_, rfl⟩
  have HRR := Lib.hid hR
  rw [hR]
  have hbig : m ≤ 400000 := by omega
  have hbigv : np ≤ 400000 := by omega
  clear h h1 h2 hR hrb0 hrc0 hml0 hnv hnl0 hnc
  go_enter Try.func16, Try.ntmps16
  go_wp2_with fail
  generalize ((w.alloc (.cells #[.slice P np cp, .slice Q m d] 25)).alloc (.cells #[.slice none 0 0, .slice none 0 0] 25)) = w2 at *
  obtain ⟨b, hb0⟩ : ∃ b, w.heap.size = b := ⟨_, rfl⟩
  obtain ⟨r, hr0⟩ : ∃ r, b + 1 = r := ⟨_, rfl⟩
  have HBR : Hid (w.heap.size ≤ r) := Lib.hid (by omega)
  have HBN : Hid (b ≠ r) := Lib.hid (by omega)
  have HBB : Hid (w.heap.size ≤ b) := Lib.hid (by omega)
  rw [hb0] at HBX HR
  rw [hr0] at HR
  simp only [hb0]
  simp only [hr0]
  clear hb0 hr0
  refine (rsane_any HV.out).mono ?_
  rintro e w3 ⟨rfl, hb⟩
  have HB3 := Lib.hid (HB2.out.trans (hb.mono HB2.out.size))
  have HV3 := Lib.hid (HV.out.keep hb)
  have HRC3 := Lib.hid (HRC0.out.keep hb)
  have HRB3 := Lib.hid (HRB0.out.keep hb)
  have HBX3 := Lib.hid (blk HBX.out hb)
  have HR3 := Lib.hid (blk HR.out hb)
  clear hb HV HBX HR HB2 HRC0 HRB0
  obtain ⟨q0, q1⟩ := cells2 HR3.out
  have p0 := (cells_at HR3.out 0).2
  have p1 := (cells_at HR3.out 1).2
  have hrl : r < w3.heap.size := lt_of_heap HR3.out
  have HX3 := Lib.hid (HX.out.keep HB3.out)
  cases hs : sane s with
  | false =>
    have HQ : Hid (R = (none_, 1)) := HRR.out.symm.trans (open_notsane hs)
    go_wp2_with fail
    obtain ⟨f0, f1⟩ := cells2 (store2 HR3.out (.slice none 0 0) (.slice none 0 0))
    have HF := Lib.hid ((HB3.out.setCell (p := ⟨r, 0, none⟩) HBR.out (.slice none 0 0)).setCell (p := ⟨r, 1, none⟩) HBR.out (.slice none 0 0))
    generalize (w3.setCell ⟨r, 0, none⟩ (.slice none 0 0)).setCell ⟨r, 1, none⟩ (.slice none 0 0) = wf at *
    clear q0 q1 p0 p1
    rw [HQ.out]
    exact bodyPost_ret (v := .tuple #[.agg #[.slice none 0 0, .slice none 0 0], .int .i64 1]) (by simp [results, Try.results16, go_sem, f0, f1]) rfl ⟨⟨_, _, _, _, _, _, rfl, StIs.none_ elD wf⟩, HF.out⟩
  | true =>
    have HS := Lib.hid hs
    clear hs
    go_wp2_with fail
    refine (rend_any HX3.out).mono ?_
    rintro e w4 ⟨rfl, hw4⟩
    obtain rfl : w3 = w4 := hw4.symm
    cases hm : mayE xs with
    | false =>
      have HQ : Hid (R = (none_, 1)) := HRR.out.symm.trans (open_no HS.out hm)
      go_wp2_with fail
      obtain ⟨f0, f1⟩ := cells2 (store2 HR3.out (.slice none 0 0) (.slice none 0 0))
      have HF := Lib.hid ((HB3.out.setCell (p := ⟨r, 0, none⟩) HBR.out (.slice none 0 0)).setCell (p := ⟨r, 1, none⟩) HBR.out (.slice none 0 0))
      generalize (w3.setCell ⟨r, 0, none⟩ (.slice none 0 0)).setCell ⟨r, 1, none⟩ (.slice none 0 0) = wf at *
      clear q0 q1 p0 p1
      rw [HQ.out]
      exact bodyPost_ret (v := .tuple #[.agg #[.slice none 0 0, .slice none 0 0], .int .i64 1]) (by simp [results, Try.results16, go_sem, f0, f1]) rfl ⟨⟨_, _, _, _, _, _, rfl, StIs.none_ elD wf⟩, HF.out⟩
    | true =>
      have HQ : Hid (R = (⟨s.vals, s.cs ++ [⟨op, xs, s.vals.length, false⟩]⟩, 0)) := HRR.out.symm.trans (open_ok HS.out hm)
      clear hm q0 q1 p0 p1 hrl
      obtain ⟨x0, x1⟩ := cells2 HBX3.out
      have hbl : b < w3.heap.size := lt_of_heap HBX3.out
      go_wp2_with fail
      clear x0 x1 hbl
      refine (copied_eo HV3.out HL1.out HL2.out).mono ?_
      rintro e w5 ⟨⟨P5, n5, c5, Q5, m5, d5, l, rfl, he1, he2, hml, hok, hck⟩, hb⟩
      have HBn := Lib.hid (hb.trans ((below_new w5 (.cells #[.slice P5 n5 c5, .slice Q5 m5 d5] 25)).mono hb.size))
      have HB6 := Lib.hid (HB3.out.trans (HBn.out.mono HB3.out.size))
      have HE1 := Lib.hid (he1.keep (below_new w5 (.cells #[.slice P5 n5 c5, .slice Q5 m5 d5] 25)))
      have HE2 := Lib.hid (he2.keep (below_new w5 (.cells #[.slice P5 n5 c5, .slice Q5 m5 d5] 25)))
      have HO6 := Lib.hid (heap_new w5 (.cells #[.slice P5 n5 c5, .slice Q5 m5 d5] 25))
      have HR6 := Lib.hid (blk HR3.out HBn.out)
      have HBX6 := Lib.hid (blk HBX3.out HBn.out)
      have HX6 := Lib.hid (HX3.out.keep HBn.out)
      have HML := Lib.hid hml
      have HOK := Lib.hid hok
      have HCK := Lib.hid hck
      have HO5 : Hid (w3.heap.size ≤ w5.heap.size) := hb.size
      have HR4l : Hid (r < w3.heap.size) := lt_of_heap HR3.out
      have HBl : Hid (b < w3.heap.size) := lt_of_heap HBX3.out
      have hm5 : l.length = m5 := by
        obtain ⟨A, c', e⟩ := he2.form
        injection e with _ e1 _
        exact e1.symm
      have hml0 : l.length = s.cs.length := by rw [← hml, List.length_map]
      have HM5 := Lib.hid hm5
      have HM5' : Hid (m5 ≤ 400000) := Lib.hid (by have := HL2.out; omega)
      clear hb he1 he2 hml hok hck hm5 hml0
      go_wp2_with fail
      generalize w5.alloc (.cells #[.slice P5 n5 c5, .slice Q5 m5 d5] 25) = w6 at *
      obtain ⟨o, ho⟩ : ∃ o, w5.heap.size = o := ⟨_, rfl⟩
      rw [ho] at HO6 HO5
      simp only [ho]
      clear ho
      obtain ⟨o0, o1⟩ := cells2 HO6.out
      have op1 := (cells_at HO6.out 1).2
      have hol : o < w6.heap.size := lt_of_heap HO6.out
      obtain ⟨x0, x1⟩ := cells2 HBX6.out
      have hbl : b < w6.heap.size := lt_of_heap HBX6.out
      obtain ⟨nv, hnv⟩ : ∃ n, s.vals.length = n := ⟨_, rfl⟩
      have HW1 := Lib.hid (((below_new w6 (.cells #[] 5)).drew))
      have HX7 := Lib.hid (HX6.out.keep HW1.out)
      have HNW : Hid (w64 (np : Int)) := ⟨by omega, by omega⟩
      have HMM : Hid (m5 + 1 ≤ 1000000) := Lib.hid (by have := HM5'.out; omega)
      have HL3' : Hid (nx ≤ 1000000) := Lib.hid (by have := HL3.out; omega)
      have HOW : Hid (o < w6.heap.size) := hol
      have HBW : Hid (b < w6.heap.size) := hbl
      go_region_law (first
        | (refine step_appT elB 22 Try.underlying22 (w6.alloc (.cells #[] 5)).drew rfl (.tmp 23) (.tmp 24) rfl w6.heap.size (.slice (some ⟨w6.heap.size, 0, none⟩) 0 0) (.slice Px nx cx) [] xs nx (by rfl) (by rfl) (.inl ⟨_, rfl, rfl⟩) HX7.out (by rw [List.length_nil, Nat.zero_add]; exact HNX.out) HL3'.out (by decide) HW1.out.size ?_; intro P7 c7 w7 he7 hb7 hc7; have HE7 := Lib.hid he7; have HB7 := Lib.hid (HW1.out.trans hb7); have hol7 : o < w7.heap.size := Nat.lt_of_lt_of_le HOW.out HB7.out.size; have hbl7 : b < w7.heap.size := Nat.lt_of_lt_of_le HBW.out HB7.out.size; obtain ⟨y0, y1⟩ := cells2 (blk HO6.out HB7.out); obtain ⟨v0, v1⟩ := cells2 (blk HBX6.out HB7.out); clear he7 hb7 hc7)
        | (refine step_appT elD 23 Try.underlying23 (w7.alloc (.cells #[.int .i64 op, .slice P7 nx c7, .int .i64 (np : Int), .bool false] 49)) rfl (.tmp 21) (.tmp 30) rfl w3.heap.size (.slice Q5 m5 d5) (.slice (some ⟨w7.heap.size, 0, none⟩) 1 1) l [(⟨op, xs, (np : Int), false⟩, .slice P7 nx c7)] (m5 + 1) (by rfl) (by rfl) (HE2.out.keep (HB7.out.trans ((below_new w7 _).mono HB7.out.size))) (row_newD ⟨by have := HE7.out.row (fun p hp => HX7.out.2 p (by simpa using hp)); simpa using this, HOPW.out, HNW.out⟩) (by rw [HM5.out]; rfl) HMM.out (by decide) (Nat.le_trans HO5.out (Nat.le_trans (Nat.le_of_lt HOW.out) (Nat.le_trans HB7.out.size (below_new w7 _).size))) ?_; intro P8 c8 w8 he8 hb8 hc8; have HE8 := Lib.hid he8; have HB8 := Lib.hid hb8; have HC8 := Lib.hid hc8; have HO8 := Lib.hid (hc8 o _ _ (blk (blk HO6.out HB7.out) (below_new w7 (.cells #[.int .i64 op, .slice P7 nx c7, .int .i64 (np : Int), .bool false] 49))) (by decide)); obtain ⟨u0, u1⟩ := cells2 HO8.out; have u2 := (cells_at HO8.out 1).2; clear he8 hb8 hc8))
      all_goals (
        have HW7 := Lib.hid (below_new w7 (.cells #[.int .i64 op, .slice P7 nx c7, .int .i64 (np : Int), .bool false] 49))
        have HR8 := Lib.hid (HC8.out r _ _ (blk (blk HR6.out HB7.out) HW7.out) (by decide))
        have hro : r ≠ o := by have := HR4l.out; have := HO5.out; omega
        have hor : o ≠ r := Ne.symm hro
        have HO9 : Hid ((w8.setCell ⟨o, 1, none⟩ (.slice P8 (m5 + 1) c8)).heap[o]? = some (.cells #[.slice P5 n5 c5, .slice P8 (m5 + 1) c8] 25 (0, 0))) := by
          show _ = _
          rw [set_heap HO8.out]
          rfl
        have HR9 := Lib.hid (chgT_low (u := .slice P8 (m5 + 1) c8) HR8.out (o := o) (i := 1) hro)
        have hB0 : Below w3.heap.size w3 w8 := (HBn.out.trans ((HB7.out.trans (HW7.out.mono HB7.out.size)).mono HBn.out.size)).trans HB8.out
        have HE91 := Lib.hid ((((HE1.out.keep HB7.out).keep HW7.out).other HC8.out (by decide)).other (chgT_set (i := 1) (u := .slice P8 (m5 + 1) c8) HO8.out) (by decide))
        have HE92 := Lib.hid (HE8.out.other (chgT_set (i := 1) (u := .slice P8 (m5 + 1) c8) HO8.out) (by decide))
        have HE93 := Lib.hid (((HE7.out.keep HW7.out).other HC8.out (by decide)).other (chgT_set (i := 1) (u := .slice P8 (m5 + 1) c8) HO8.out) (by decide))
        have HC9 : Hid (∀ p ∈ l, CtOk (w8.setCell ⟨o, 1, none⟩ (.slice P8 (m5 + 1) c8)) p) := fun p hp => ctok_box ((HCK.out p hp).keep hB0) HO8.out
        have HB9 := Lib.hid (((HB3.out.trans (hB0.mono HB3.out.size)).setCell (p := ⟨o, 1, none⟩) (by have := HB3.out.size; have := HO5.out; show _ ≤ o; omega) (.slice P8 (m5 + 1) c8)))
        clear hB0 u0 u1 u2 o0 o1 op1 hol x0 x1 hbl y0 y1 v0 v1 hol7 hbl7
        generalize w8.setCell ⟨o, 1, none⟩ (.slice P8 (m5 + 1) c8) = w9 at *
        obtain ⟨o0, o1⟩ := cells2 HO9.out
        obtain ⟨q0, q1⟩ := cells2 HR9.out
        have p0 := (cells_at HR9.out 0).2
        have p1 := (cells_at HR9.out 1).2
        have hrl : r < w9.heap.size := lt_of_heap HR9.out
        go_wp2_with fail
        obtain ⟨f0, f1⟩ := cells2 (store2 HR9.out (.slice P5 n5 c5) (.slice P8 (m5 + 1) c8))
        have HF := Lib.hid ((HB9.out.setCell (p := ⟨r, 0, none⟩) HBR.out (.slice P5 n5 c5)).setCell (p := ⟨r, 1, none⟩) HBR.out (.slice P8 (m5 + 1) c8))
        have HG1 := Lib.hid ((HE91.out.other (chgT_set (i := 0) (u := .slice P5 n5 c5) HR9.out) (by decide)).other (chgT_set (i := 1) (u := .slice P8 (m5 + 1) c8) (set_heap HR9.out _)) (by decide))
        have HG2 := Lib.hid ((HE92.out.other (chgT_set (i := 0) (u := .slice P5 n5 c5) HR9.out) (by decide)).other (chgT_set (i := 1) (u := .slice P8 (m5 + 1) c8) (set_heap HR9.out _)) (by decide))
        have HG3 := Lib.hid ((HE93.out.other (chgT_set (i := 0) (u := .slice P5 n5 c5) HR9.out) (by decide)).other (chgT_set (i := 1) (u := .slice P8 (m5 + 1) c8) (set_heap HR9.out _)) (by decide))
        have HGC : Hid (∀ p ∈ l, CtOk ((w9.setCell ⟨r, 0, none⟩ (.slice P5 n5 c5)).setCell ⟨r, 1, none⟩ (.slice P8 (m5 + 1) c8)) p) := fun p hp => ctok_box (ctok_box (HC9.out p hp) HR9.out) (set_heap HR9.out _)
        generalize (w9.setCell ⟨r, 0, none⟩ (.slice P5 n5 c5)).setCell ⟨r, 1, none⟩ (.slice P8 (m5 + 1) c8) = wf at *
        clear q0 q1 p0 p1 o0 o1
        rw [HQ.out]
        have hrowx : Row elB wf (.slice P7 nx c7) xs := by have := HG3.out.row (fun p hp => HX7.out.2 p (by simpa using hp)); simpa using this
        exact bodyPost_ret (v := .tuple #[.agg #[.slice P5 n5 c5, .slice P8 (m5 + 1) c8], .int .i64 0]) (by simp [results, Try.results16, go_sem, f0, f1]) rfl ⟨⟨_, _, _, _, _, _, rfl, _, _, l ++ [(⟨op, xs, (np : Int), false⟩, .slice P7 nx c7)], rfl, HG1.out.row HOK.out, HG2.out.row (fun p hp => by
          rcases List.mem_append.1 hp with hp | hp
          · exact HGC.out p hp
          · obtain rfl := List.mem_singleton.1 hp
            exact ⟨hrowx, HOPW.out, HNW.out⟩), by rw [List.map_append, HML.out, HNV.out]; rfl⟩, HF.out⟩)
end Go.Proofs.Ytlappkflnlbfcaa.Stk
