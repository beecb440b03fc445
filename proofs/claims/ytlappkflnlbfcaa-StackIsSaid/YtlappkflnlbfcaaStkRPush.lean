/- The document's Push, walked. -/
import Derived.Test.YtlappkflnlbfcaaStkRSane
namespace Go.Proofs.Ytlappkflnlbfcaa.Stk
open Go.RowKit Row9
set_option maxRecDepth 100000
set_option maxHeartbeats 4000000
set_option linter.unusedVariables false
/-- All blocks of another type stay. -/
def ChgT (t : TypeId) (w w' : World) : Prop := ∀ (k : Nat) (cur : Array Value) (t' : TypeId), w.heap[k]? = some (.cells cur t' (0, 0)) → t ≠ t' → w'.heap[k]? = some (.cells cur t' (0, 0))
theorem ChgT.of_own {α : Type} {T : El α} {w w' : World} {B : Nat} {v : Value} {l : List α} (h : Own T w B v l) (hc : Chg w w' v.ownBlock) : ChgT T.e w w' := fun k cur t' hk hne =>
  (hc k (lt_of_heap hk) (fun e => own_notB h hk hne e.symm rfl)).trans hk
theorem ChgT.of_below {t : TypeId} {w w' : World} (hb : Below w.heap.size w w') : ChgT t w w' := fun k cur t' hk hne => blk hk hb
theorem run_appT {α : Type} (T : El α) (t : TypeId) (ht : Try.prog.underlying t = some (.slice T.e)) (w : World) (ty : TypeId) (B : Nat) (v x : Value) (done l : List α) (hown : EO T w B v done) (hl : Row T w x l) (hlen : done.length + l.length ≤ 1000000) (hby : T.bytes ≤ 100) (hB : B ≤ w.heap.size) :
    ∃ v' w', (Builtin.append_ #[t, t] ty #[v, x]).run Try.prog w = .ok v' w' ∧ EO T w' B v' (done ++ l) ∧ Below B w w' ∧ ChgT T.e w w' := by
  rcases hown with ⟨a, rfl, rfl⟩ | hown
  · obtain ⟨v', w', h1, h2, h3⟩ := run_app0 T t ht w ty B a x l hl (by simp at hlen; omega) hby hB
    exact ⟨v', w', h1, h2, h3.mono hB, .of_below h3⟩
  · obtain ⟨v', w', hr, h1, h2⟩ := run_rowsG T t ht w ty B v x done l hown hl hlen hby hB
    exact ⟨v', w', hr, .inr h1, (Below.refl _ _).grown h2 hB (fun k hk => (World.ownsRow.lt hown k hk).1), .of_own hown (fun k hk hne => h2.block k hk hne)⟩
theorem wp_appT {α : Type} (T : El α) {ops : Array Oper} {rest : List Oper} {o : Oper} {a : Act} {Q : Exit → Act → World → Prop} (t : TypeId) (ht : Try.prog.underlying t = some (.slice T.e)) (w : World) (hgd : o.guard = none) (s x : Operand)
    (ho : o.op = .call { callee := .builtin .append, args := #[s, x], argTypes := #[t, t] }) (B : Nat) (v x' : Value) (done l : List α) (hs : a.eval s = v) (hown : EO T w B v done)
    (hx : a.eval x = x') (hl : Row T w x' l) (hlen : done.length + l.length ≤ 1000000) (hby : T.bytes ≤ 100) (hB : B ≤ w.heap.size)
    (h : ∀ v' w', EO T w' B v' (done ++ l) → Below B w w' → ChgT T.e w w' → wpList Try.prog ops Q rest (a.put o.dst v') w') : wpList Try.prog ops Q (o :: rest) a w := by
  refine wpList_plain hgd fun K hK => ?_
  obtain ⟨v', w', hr, h1, h2, h3⟩ := run_appT T t ht w o.type B v x' done l hown hl hlen hby hB
  unfold Oper.wp
  simp only [execOp, ho, resolve, invoke, builtin, Sem.run_bind, Sem.run_pure, Result.andThen_ok, List.map_toArray, List.map_cons, List.map_nil, hs, hx, hr]
  exact hK _ _ (h v' w' h1 h2 h3)
theorem EO.other {α : Type} {T : El α} {w w' : World} {B : Nat} {v : Value} {l : List α} {t : TypeId} (h : EO T w B v l) (hc : ChgT t w w') (hne : t ≠ T.e) : EO T w' B v l := by
  rcases h with h | h
  · exact .inl h
  · refine .inr (own_stay h fun k hk => ?_)
    obtain ⟨cur, hcur⟩ := own_type h hk
    rw [hcur]
    exact hc k cur _ hcur hne
theorem chgT_set {w : World} {o i : Nat} {cur : Array Value} {t : TypeId} {u : Value} (h : w.heap[o]? = some (.cells cur t (0, 0))) : ChgT t w (w.setCell ⟨o, i, none⟩ u) := fun k cur' t' hk hne => by
  rw [chg_set w o i u k (lt_of_heap hk) (by
    intro e
    obtain rfl := Option.some.inj e
    rw [h] at hk
    simp only [Option.some.injEq, Obj.cells.injEq] at hk
    exact hne hk.2.1)]
  exact hk
theorem chgT_low {w : World} {r o i : Nat} {cs : Array Value} {t : TypeId} {u : Value} (h : w.heap[r]? = some (.cells cs t (0, 0))) (hne : r ≠ o) : (w.setCell ⟨o, i, none⟩ u).heap[r]? = some (.cells cs t (0, 0)) := by
  rw [chg_set w o i u r (lt_of_heap h) (fun e => hne (Option.some.inj e))]
  exact h
theorem box_int {W : World} {y : Nat} {A A' : Option Addr} {n c n' c' : Nat} {t : TypeId} (h : W.heap[y]? = some (.cells #[.slice A n c, .slice A' n' c'] t (0, 0))) (o : Nat) {k : IntKind} {x : Int} : W.cell? ⟨y, o, none⟩ ≠ some (.int k x) := by
  rw [(cells_at h o).1]
  rcases o with _ | _ | o <;> simp
/-- A store into a box of two slices leaves rows of bytes. -/
theorem rowB_box {W : World} {y i : Nat} {u v : Value} {l : List Int} {A A' : Option Addr} {n c n' c' : Nat} {t : TypeId} (h : Row elB W v l) (hy : W.heap[y]? = some (.cells #[.slice A n c, .slice A' n' c'] t (0, 0))) : Row elB (W.setCell ⟨y, i, none⟩ u) v l := by
  obtain ⟨⟨B, d, h1, h2, h3, h4⟩, h5⟩ := h
  refine ⟨⟨B, d, h1, h2, h3, fun h0 => ?_⟩, h5⟩
  obtain ⟨g, off, e, hg, hB⟩ := h4 h0
  have hgy : y ≠ g := by
    intro e
    subst e
    obtain ⟨p, hp⟩ : ∃ p, l[0]? = some p := by
      cases l with
      | nil => exact absurd rfl h0
      | cons p l => exact ⟨p, rfl⟩
    exact box_int hy _ (hB 0 p hp 0 _ rfl)
  refine ⟨g, off, e, by rw [set_size]; exact hg, fun j p hj i' u' hu => ?_⟩
  rw [World.cell?_setCell_other _ _ _ _ (by intro e; exact hgy (congrArg Addr.block e))]
  exact hB j p hj i' u' hu
theorem ctok_box {W : World} {y i : Nat} {u : Value} {p : CtV} {A A' : Option Addr} {n c n' c' : Nat} {t : TypeId} (h : CtOk W p) (hy : W.heap[y]? = some (.cells #[.slice A n c, .slice A' n' c'] t (0, 0))) : CtOk (W.setCell ⟨y, i, none⟩ u) p := ⟨rowB_box h.1 hy, h.2⟩
theorem store2 {W : World} {r : Nat} {a0 b0 : Value} {t : TypeId} (h : W.heap[r]? = some (.cells #[a0, b0] t (0, 0))) (a b : Value) : ((W.setCell ⟨r, 0, none⟩ a).setCell ⟨r, 1, none⟩ b).heap[r]? = some (.cells #[a, b] t (0, 0)) := by
  rw [set_heap (set_heap h _)]
  rfl
/-- What the document's calls of a stack end with. -/
def ROp (r : Stk × Int) (w : World) (e : Ending) (w' : World) : Prop := (∃ P n c Q m d, e = .returned (.tuple #[.agg #[.slice P n c, .slice Q m d], .int .i64 r.2]) ∧ StIs elD w' (.agg #[.slice P n c, .slice Q m d]) r.1) ∧ Below w.heap.size w w'
theorem push_notsane {s : Stk} {xs : List Int} (h : sane s = false) : pushS s xs = (none_, 1) := by unfold pushS; rw [if_pos h]
theorem sane_vals (xs : List Int) : sane ⟨xs, []⟩ = !(xs.any noT) := by
  unfold sane
  show (decide ((0 : Int) ≤ xs.length) && !(xs.any noT)) = _
  rw [decide_eq_true (by omega), Bool.true_and]
theorem rpush_any {v x : Value} {s : Stk} {xs : List Int} {w : World} (h : StIs elD w v s) (hx : Row elB w x xs) (h1 : s.vals.length ≤ 400000) (h2 : s.cs.length ≤ 400000) (h3 : xs.length ≤ 400000) :
    Calls Try.prog 8 #[v, x] w (ROp (pushS s xs) w) := by
  obtain ⟨P, np, cp, Q, m, d, rfl⟩ := StIs.form (T := elD) h
  obtain ⟨Px, cx, rfl, _⟩ := hx.form
  obtain ⟨nx, hnx⟩ : ∃ n, xs.length = n := ⟨_, rfl⟩
  rw [hnx] at hx ⊢
  have HB2 := Lib.hid (below2 w (.cells #[.slice P np cp, .slice Q m d] 25) (.cells #[.slice none 0 0, .slice none 0 0] 25))
  have HV := Lib.hid (h.keep HB2.out)
  have HX := Lib.hid (hx.keep HB2.out)
  have HBX := Lib.hid (blk (heap_new w (.cells #[.slice P np cp, .slice Q m d] 25)) (below_new (w.alloc (.cells #[.slice P np cp, .slice Q m d] 25)) (.cells #[.slice none 0 0, .slice none 0 0] 25)))
  have HR := Lib.hid (heap_new (w.alloc (.cells #[.slice P np cp, .slice Q m d] 25)) (.cells #[.slice none 0 0, .slice none 0 0] 25))
  simp only [size_new] at HR
  have HL1 := Lib.hid h1
  have HL2 := Lib.hid h2
  have HNX := Lib.hid hnx
  have HL3 : Hid (nx ≤ 400000) := Lib.hid (by omega)
  obtain ⟨R, hR⟩ : ∃ R, pushS s xs = R := ⟨_, rfl⟩
  have HRR := Lib.hid hR
  rw [hR]
  clear h hx h1 h2 h3 hnx hR
  go_enter Try.func8, Try.ntmps8
  go_wp2_with fail
  generalize (w.alloc (.cells #[.slice P np cp, .slice Q m d] 25)).alloc (.cells #[.slice none 0 0, .slice none 0 0] 25) = w2 at *
  obtain ⟨b, hb0⟩ : ∃ b, w.heap.size = b := ⟨_, rfl⟩
  obtain ⟨r, hr0⟩ : ∃ r, b + 1 = r := ⟨_, rfl⟩
  have HBR : Hid (w.heap.size ≤ r) := Lib.hid (by omega)
  rw [hb0] at HBX HR
  rw [hr0] at HR
  simp only [hb0]
  simp only [hr0]
  clear hb0 hr0
  refine (rsane_any HV.out).mono ?_
  rintro e w3 ⟨rfl, hb⟩
  have HB3 := Lib.hid (HB2.out.trans (hb.mono HB2.out.size))
  have HV3 := Lib.hid (HV.out.keep hb)
  have HX3 := Lib.hid (HX.out.keep hb)
  have HBX3 := Lib.hid (blk HBX.out hb)
  have HR3 := Lib.hid (blk HR.out hb)
  clear hb HV HX HBX HR HB2
  cases hs : sane s with
  | false =>
    have HQ : Hid (R = (none_, 1)) := HRR.out.symm.trans (push_notsane hs)
    obtain ⟨q0, q1⟩ := cells2 HR3.out
    have p0 := (cells_at HR3.out 0).2
    have p1 := (cells_at HR3.out 1).2
    have hrl : r < w3.heap.size := lt_of_heap HR3.out
    go_wp2_with fail
    obtain ⟨f0, f1⟩ := cells2 (store2 HR3.out (.slice none 0 0) (.slice none 0 0))
    have HF := Lib.hid ((HB3.out.setCell (p := ⟨r, 0, none⟩) HBR.out (.slice none 0 0)).setCell (p := ⟨r, 1, none⟩) HBR.out (.slice none 0 0))
    generalize (w3.setCell ⟨r, 0, none⟩ (.slice none 0 0)).setCell ⟨r, 1, none⟩ (.slice none 0 0) = wf at *
    clear q0 q1 p0 p1
    rw [HQ.out]
    exact bodyPost_ret (v := .tuple #[.agg #[.slice none 0 0, .slice none 0 0], .int .i64 1]) (by simp [results, Try.results8, go_sem, f0, f1]) rfl ⟨⟨_, _, _, _, _, _, rfl, StIs.none_ elD wf⟩, HF.out⟩
  | true =>
    have HS := Lib.hid hs
    clear hs
    go_wp2_with fail
    have HVX : Hid (StIs elD w3 (.agg #[.slice Px nx cx, .slice none 0 0]) ⟨xs, []⟩) := ⟨_, _, [], rfl, HX3.out, Row.nil _ _, rfl⟩
    refine (rsane_any HVX.out).mono ?_
    rintro e w4 ⟨rfl, hb⟩
    rw [sane_vals]
    have HB4 := Lib.hid (HB3.out.trans (hb.mono HB3.out.size))
    have HV4 := Lib.hid (HV3.out.keep hb)
    have HX4 := Lib.hid (HX3.out.keep hb)
    have HBX4 := Lib.hid (blk HBX3.out hb)
    have HR4 := Lib.hid (blk HR3.out hb)
    clear hb HV3 HX3 HBX3 HR3 HVX
    cases hno : xs.any noT with
    | true =>
      have HQ : Hid (R = (none_, 1)) := HRR.out.symm.trans (push_no HS.out hno)
      obtain ⟨q0, q1⟩ := cells2 HR4.out
      have p0 := (cells_at HR4.out 0).2
      have p1 := (cells_at HR4.out 1).2
      have hrl : r < w4.heap.size := lt_of_heap HR4.out
      go_wp2_with fail
      obtain ⟨f0, f1⟩ := cells2 (store2 HR4.out (.slice none 0 0) (.slice none 0 0))
      have HF := Lib.hid ((HB4.out.setCell (p := ⟨r, 0, none⟩) HBR.out (.slice none 0 0)).setCell (p := ⟨r, 1, none⟩) HBR.out (.slice none 0 0))
      generalize (w4.setCell ⟨r, 0, none⟩ (.slice none 0 0)).setCell ⟨r, 1, none⟩ (.slice none 0 0) = wf at *
      clear q0 q1 p0 p1
      rw [HQ.out]
      exact bodyPost_ret (v := .tuple #[.agg #[.slice none 0 0, .slice none 0 0], .int .i64 1]) (by simp [results, Try.results8, go_sem, f0, f1]) rfl ⟨⟨_, _, _, _, _, _, rfl, StIs.none_ elD wf⟩, HF.out⟩
    | false =>
      have HQ : Hid (R = (⟨s.vals ++ xs, s.cs⟩, 0)) := HRR.out.symm.trans (push_ok HS.out hno)
      clear hno
      obtain ⟨x0, x1⟩ := cells2 HBX4.out
      have hbl : b < w4.heap.size := lt_of_heap HBX4.out
      go_wp2_with fail
      clear x0 x1 hbl
      refine (copied_eo HV4.out HL1.out HL2.out).mono ?_
      rintro e w5 ⟨⟨P5, n5, c5, Q5, m5, d5, l, rfl, he1, he2, hml, hok, hck⟩, hb⟩
      have HBn := Lib.hid (hb.trans ((below_new w5 (.cells #[.slice P5 n5 c5, .slice Q5 m5 d5] 25)).mono hb.size))
      have HB6 := Lib.hid (HB4.out.trans (HBn.out.mono HB4.out.size))
      have HE1 := Lib.hid (he1.keep (below_new w5 (.cells #[.slice P5 n5 c5, .slice Q5 m5 d5] 25)))
      have HE2 := Lib.hid (he2.keep (below_new w5 (.cells #[.slice P5 n5 c5, .slice Q5 m5 d5] 25)))
      have HO6 := Lib.hid (heap_new w5 (.cells #[.slice P5 n5 c5, .slice Q5 m5 d5] 25))
      have HR6 := Lib.hid (blk HR4.out HBn.out)
      have HX6 := Lib.hid (HX4.out.keep HBn.out)
      have HML := Lib.hid hml
      have HOK := Lib.hid hok
      have HCK := Lib.hid hck
      have HO5 : Hid (w4.heap.size ≤ w5.heap.size) := hb.size
      have HR4l : Hid (r < w4.heap.size) := lt_of_heap HR4.out
      clear hb he1 he2 hml hok hck
      go_wp2_with (at_builtin; refine stop_ ?_)
      refine Lib.hid ?_
      generalize w5.alloc (.cells #[.slice P5 n5 c5, .slice Q5 m5 d5] 25) = w6 at *
      obtain ⟨o, ho⟩ : ∃ o, w5.heap.size = o := ⟨_, rfl⟩
      rw [ho] at HO6 HO5
      simp only [ho]
      clear ho
      refine wp_appT elB 22 Try.underlying22 w6 rfl (.tmp 20) (.tmp 21) rfl w4.heap.size _ _ s.vals xs rfl HE1.out rfl HX6.out (by have := HL1.out; have := HL3.out; have := HNX.out; omega) (by decide) (Nat.le_trans HO5.out (Nat.le_of_lt (lt_of_heap HO6.out))) ?_
      intro v7 w7 he7 hb7 hc7
      obtain ⟨P7, c7, hv7⟩ := he7.form
      obtain ⟨n7, hn7⟩ : ∃ n, (s.vals ++ xs).length = n := ⟨_, rfl⟩
      rw [hn7] at hv7
      subst hv7
      have ho7 := hc7 o _ _ HO6.out (by decide)
      have hr7 := hc7 r _ _ HR6.out (by decide)
      have HO7 := Lib.hid ho7
      have HR7 := Lib.hid hr7
      have he2 := HE2.out.other hc7 (by decide)
      have HB7 := Lib.hid (HB6.out.trans (hb7.mono (Nat.le_trans HB4.out.size (Nat.le_refl _))))
      have HE7 := Lib.hid (he7.other (chgT_set (i := 0) (u := .slice P7 n7 c7) ho7) (by decide))
      have HE72 := Lib.hid (he2.other (chgT_set (i := 0) (u := .slice P7 n7 c7) ho7) (by decide))
      have HO8 : Hid ((w7.setCell ⟨o, 0, none⟩ (.slice P7 n7 c7)).heap[o]? = some (.cells #[.slice P7 n7 c7, .slice Q5 m5 d5] 25 (0, 0))) := by
        show _ = _
        rw [set_heap ho7]
        rfl
      have HR8 := Lib.hid (chgT_low (t := 25) (u := .slice P7 n7 c7) hr7 (o := o) (i := 0) (by have := HR4l.out; have := HO5.out; omega))
      obtain ⟨o0, o1⟩ := cells2 ho7
      have op0 := (cells_at ho7 0).2
      have hol : o < w7.heap.size := lt_of_heap ho7
      obtain ⟨q0, q1⟩ := cells2 hr7
      have p0 := (cells_at hr7 0).2
      have p1 := (cells_at hr7 1).2
      have hrl : r < w7.heap.size := lt_of_heap hr7
      have hro : r ≠ o := by have := HR4l.out; have := HO5.out; omega
      have hor : o ≠ r := Ne.symm hro
      have HF := Lib.hid (((HB7.out.setCell (p := ⟨o, 0, none⟩) (Nat.le_trans HB4.out.size HO5.out) (.slice P7 n7 c7)).setCell (p := ⟨r, 0, none⟩) HBR.out (.slice P7 n7 c7)).setCell (p := ⟨r, 1, none⟩) HBR.out (.slice Q5 m5 d5))
      have HG1 := Lib.hid ((HE7.out.other (chgT_set (i := 0) (u := .slice P7 n7 c7) HR8.out) (by decide)).other (chgT_set (i := 1) (u := .slice Q5 m5 d5) (set_heap HR8.out _)) (by decide))
      have HG2 := Lib.hid ((HE72.out.other (chgT_set (i := 0) (u := .slice P7 n7 c7) HR8.out) (by decide)).other (chgT_set (i := 1) (u := .slice Q5 m5 d5) (set_heap HR8.out _)) (by decide))
      obtain ⟨f0, f1⟩ := cells2 (store2 HR8.out (.slice P7 n7 c7) (.slice Q5 m5 d5))
      have HFC : Hid (∀ p ∈ l, CtOk (((w7.setCell ⟨o, 0, none⟩ (.slice P7 n7 c7)).setCell ⟨r, 0, none⟩ (.slice P7 n7 c7)).setCell ⟨r, 1, none⟩ (.slice Q5 m5 d5)) p) := fun p hp =>
        ctok_box (ctok_box (ctok_box ((HCK.out p hp).keep (HBn.out.trans hb7)) HO7.out) HR8.out) (set_heap HR8.out _)
      clear he7 hb7 hc7 he2 ho7 hr7 hn7
      simp only [Act.put, List.setIfInBounds_toArray, List.set_cons_succ, List.set_cons_zero]
      go_wp2_with fail
      generalize ((w7.setCell ⟨o, 0, none⟩ (.slice P7 n7 c7)).setCell ⟨r, 0, none⟩ (.slice P7 n7 c7)).setCell ⟨r, 1, none⟩ (.slice Q5 m5 d5) = wf at *
      clear q0 q1 p0 p1 o0 o1 op0
      rw [HQ.out]
      exact bodyPost_ret (v := .tuple #[.agg #[.slice P7 n7 c7, .slice Q5 m5 d5], .int .i64 0]) (by simp [results, Try.results8, go_sem, f0, f1]) rfl ⟨⟨_, _, _, _, _, _, rfl, _, _, l, rfl, HG1.out.row (fun p hp => by
        rcases List.mem_append.1 hp with hp | hp
        · exact HOK.out p hp
        · exact HX6.out.2 p hp), HG2.out.row (fun p hp => (HFC.out p hp)), HML.out⟩, HF.out⟩
end Go.Proofs.Ytlappkflnlbfcaa.Stk
