/- The document's Copied, walked: a region in any order, with appends to literals. -/
import Derived.Test.YtlappkflnlbfcaaStkBk
import Derived.ArgAppend
namespace Go.Proofs.Ytlappkflnlbfcaa.Stk
open Go.RowKit Row9
set_option maxRecDepth 100000
set_option maxHeartbeats 4000000
set_option linter.unusedVariables false
section
variable {α : Type}
/-- A row of the call's own, or an empty literal. -/
def EO (T : El α) (w : World) (B : Nat) (v : Value) (l : List α) : Prop := (∃ a, v = .slice (some a) 0 0 ∧ l = []) ∨ Own T w B v l
theorem EO.keep {T : El α} {w w' : World} {B : Nat} {v : Value} {l : List α} (h : EO T w B v l) (hb : Below w.heap.size w w') : EO T w' B v l := by
  rcases h with h | h
  · exact .inl h
  · exact .inr (own_keep h hb)
theorem EO.form {T : El α} {w : World} {B : Nat} {v : Value} {l : List α} (h : EO T w B v l) : ∃ A c, v = .slice A l.length c := by
  rcases h with ⟨a, rfl, rfl⟩ | h
  · exact ⟨some a, 0, rfl⟩
  · exact Own.form h
theorem EO.row {T : El α} {w : World} {B : Nat} {v : Value} {l : List α} (h : EO T w B v l) (hok : ∀ p ∈ l, T.ok w p) : Row T w v l := by
  rcases h with ⟨a, rfl, rfl⟩ | h
  · exact ⟨⟨_, 0, rfl, Nat.le_refl _, by omega, fun h => absurd rfl h⟩, by simp⟩
  · exact Own.row h hok
theorem EO.stay {T : El α} {w w' : World} {B : Nat} {v : Value} {l : List α} (h : EO T w B v l) (hk : ∀ k, B ≤ k → k < w.heap.size → w'.heap[k]? = w.heap[k]?) : EO T w' B v l := by
  rcases h with h | h
  · exact .inl h
  · exact .inr (own_stay h fun k e => hk k (World.ownsRow.lt h k e).1 (World.ownsRow.lt h k e).2)
/-- 'append([]T{}, x...)'. -/
theorem run_app0 (T : El α) (t : TypeId) (ht : Try.prog.underlying t = some (.slice T.e)) (w : World) (ty : TypeId) (B : Nat) (a : Addr) (x : Value) (l : List α) (hl : Row T w x l) (hlen : l.length ≤ 1000000) (hby : T.bytes ≤ 100) (hB : B ≤ w.heap.size) :
    ∃ v' w', (Builtin.append_ #[t, t] ty #[.slice (some a) 0 0, x]).run Try.prog w = .ok v' w' ∧ EO T w' B v' l ∧ Below w.heap.size w w' := by
  obtain ⟨i0, hi, hz0, hz1, hz2⟩ := info_parts T.info
  have hbig : l.length * T.bytes ≤ 140737488355328 := by
    have h1 : l.length * T.bytes ≤ 1000000 * 100 := Nat.mul_le_mul hlen hby
    omega
  obtain ⟨A, c, rfl, h2, h3⟩ := hl.form
  rcases Nat.eq_zero_or_pos l.length with hl0 | hl0
  · have hl' : l = [] := List.length_eq_zero_iff.1 hl0
    subst hl'
    refine ⟨.slice (some a) 0 0, w, ?_, .inl ⟨a, rfl, rfl⟩, Below.refl _ _⟩
    rcases A with _ | ad
    · simp [Builtin.append_, run_underlying ht, sizeOf, typeInfo, hi, Builtin.lenOf, Builtin.firstCells, storeCells]
    · have hfc : (Builtin.firstCells i0.size 0 (.slice (some ad) 0 c)).run Try.prog w = .ok #[] w := by
        have := run_firstCells_some (P := Try.prog) w i0.size 0 ad 0 c [] (by simp) (by simp)
        simpa using this
      simp [Builtin.append_, run_underlying ht, sizeOf, typeInfo, hi, Builtin.lenOf, hfc, storeCells]
  · obtain ⟨y, hy⟩ : ∃ y, l[0]? = some y := by
      rcases l with _ | ⟨y, l⟩
      · simp at hl0
      · exact ⟨y, rfl⟩
    obtain ⟨g, off, e, _⟩ := hl.at_ hy
    subst e
    obtain ⟨v', w', hr, h1, h2⟩ := run_append_arg_grows (P := Try.prog) w t ty T.e i0 T.z T.s T.bytes ht hi hz0 hz1 hz2 T.zs T.pos a 0 0 [] (by simp) (by simp) ⟨g, off, none⟩ l.length c (l.flatMap T.enc) (by rw [flat_len]) (row_cells hl) (by omega) (by simp only [maxLen]; omega) (by simpa using hbig)
    rw [List.nil_append, Nat.zero_add] at h1
    have h1' : Own T w' w.heap.size v' l := h1
    exact ⟨v', w', hr, .inr (own_low h1' hB), (Below.refl _ _).grown h2 (Nat.le_refl _) (fun k hk => by cases hk)⟩
end
/-- An empty literal. -/
def Lit0 (v : Value) (_ : World) : Prop := ∃ a, v = .slice (some a) 0 0
section
variable {ops : Array Oper} {w0 : World} {a0 : Act} {env : List (Tmp × Stab.Sp)} {o : Oper}
theorem owes_app {α : Type} (T : El α) {t : TypeId} {s x : Operand} {vx : Value} {l : List α} (ht : Try.prog.underlying t = some (.slice T.e)) (ho : o.op = .call { callee := .builtin .append, args := #[s, x], argTypes := #[t, t] })
    (hs : Stab.evalS a0 env s = .fits Lit0) (hx : Stab.evalS a0 env x = .is vx) (hl : Row T w0 vx l) (hlen : l.length ≤ 1000000) (hby : T.bytes ≤ 100) (hw : Stab.wantB ops a0 env o = true) : Stab.Owes Try.prog ops w0 a0 env o (.fits fun v W => EO T W w0.heap.size v l) :=
  Stab.owes_run hw fun ρ w hb hρ => by
    have h1 := hρ s (by simp [ho, Op.operands, Call.operands])
    have h2 := hρ x (by simp [ho, Op.operands, Call.operands])
    rw [hs] at h1
    rw [hx] at h2
    have h2 : ρ x = vx := h2
    obtain ⟨a, h1⟩ : Lit0 (ρ s) w := h1
    obtain ⟨v', w', hr, h3, h4⟩ := run_app0 T t ht w o.type w0.heap.size a vx l (hl.keep hb) hlen hby hb.size
    simp only [execOp, ho, resolve, invoke, builtin, Sem.run_bind, Sem.run_pure, Result.andThen_ok, List.map_toArray, List.map_cons, List.map_nil, h1, h2, hr]
    exact ⟨h4, h3⟩
theorem owes_lit {t : TypeId} (ho : o.op = .buildSlice t 0 #[]) (hr : ∀ w, Below w0.heap.size w0 w → Stab.YieldOk Try.prog w (Stab.Sp.fits Lit0).holds ((execOp (fun _ => undef) o).run Try.prog w)) (hw : Stab.wantB ops a0 env o = true) : Stab.Owes Try.prog ops w0 a0 env o (.fits Lit0) :=
  Stab.owes_run hw fun ρ w hb hρ => by
    have := hr w hb
    simp only [execOp, ho, Array.map_empty] at this ⊢
    exact this
end
theorem Lit0.stays : Stab.Stays Lit0 := fun _ _ _ h _ => h
theorem run_fD0 (g : Nat) (W : World) : (Instr.fieldAt 25 (.pointer (some ⟨g, 0, none⟩)) 0).run Try.prog W = .ok (.pointer (some ⟨g, 0, none⟩)) W := by go_simp
theorem run_fD1 (g : Nat) (W : World) : (Instr.fieldAt 25 (.pointer (some ⟨g, 0, none⟩)) 1).run Try.prog W = .ok (.pointer (some ⟨g, 1, none⟩)) W := by go_simp
theorem run_cellC (A : Option Addr) (n c g o : Nat) (W : World) (h : W.cell? ⟨g, o, none⟩ = some (.slice A n c)) : (Instr.loadAt 23 (.pointer (some ⟨g, o, none⟩))).run Try.prog W = .ok (.slice A n c) W := by go_simp
theorem run_bldD (A A' : Option Addr) (n c n' c' : Nat) (W : World) : (Instr.build 25 #[(0, .slice A n c), (1, .slice A' n' c')]).run Try.prog W = .ok (.agg #[.slice A n c, .slice A' n' c']) W := by go_simp
theorem EO.low {α : Type} {T : El α} {w : World} {B B' : Nat} {v : Value} {l : List α} (h : EO T w B v l) (hB : B' ≤ B) : EO T w B' v l := by
  rcases h with h | h
  · exact .inl h
  · exact .inr (own_low h hB)
/-- A copy: rows of the call's own. -/
def CpE (s : Stk) (w : World) (e : Ending) (w' : World) : Prop := (∃ P n c Q m d l, e = .returned (.agg #[.slice P n c, .slice Q m d]) ∧ EO elB w' w.heap.size (.slice P n c) s.vals ∧ EO elD w' w.heap.size (.slice Q m d) l ∧ l.map (·.1) = s.cs ∧ (∀ p ∈ s.vals, 0 ≤ p ∧ p < 256) ∧ (∀ p ∈ l, CtOk w p)) ∧ Below w.heap.size w w'
theorem copied_eo {v : Value} {s : Stk} {w : World} (h : StIs elD w v s) (hv : s.vals.length ≤ 400000) (hl : s.cs.length ≤ 400000) : Calls Try.prog 30 #[v] w (CpE s w) := by
  obtain ⟨P, np, cp, Q, m, d, rfl⟩ := StIs.form (T := elD) h
  obtain ⟨l, hrb, hrc, hml, hnv, hnl, hnc⟩ := h.rows
  have HB2 := Lib.hid (below2 w (.cells #[.slice P np cp, .slice Q m d] 25) (.cells #[.slice none 0 0, .slice none 0 0] 25))
  have HA := Lib.hid (hrb.keep HB2.out)
  have HC := Lib.hid (hrc.keep HB2.out)
  have HOK := Lib.hid hrc.2
  have HOB := Lib.hid hrb.2
  have HML := Lib.hid hml
  have HLV := Lib.hid (show s.vals.length ≤ 1000000 by omega)
  have HLC := Lib.hid (show l.length ≤ 1000000 by omega)
  have HX := Lib.hid (blk (heap_new w (.cells #[.slice P np cp, .slice Q m d] 25)) (below_new (w.alloc (.cells #[.slice P np cp, .slice Q m d] 25)) (.cells #[.slice none 0 0, .slice none 0 0] 25)))
  have HR := Lib.hid (heap_new (w.alloc (.cells #[.slice P np cp, .slice Q m d] 25)) (.cells #[.slice none 0 0, .slice none 0 0] 25))
  simp only [size_new] at HR
  clear h hrb hrc hml hnv hnl hnc hl hv
  go_enter Try.func30, Try.ntmps30
  go_wp2_with fail
  generalize (w.alloc (.cells #[.slice P np cp, .slice Q m d] 25)).alloc (.cells #[.slice none 0 0, .slice none 0 0] 25) = w2 at *
  obtain ⟨x, hx⟩ : ∃ x, w.heap.size = x := ⟨_, rfl⟩
  obtain ⟨r, hr⟩ : ∃ r, x + 1 = r := ⟨_, rfl⟩
  have HXR : Hid (w.heap.size ≤ r) := Lib.hid (by omega)
  rw [hx] at HX HR
  rw [hr] at HR
  simp only [hx]
  simp only [hr]
  clear hr hx
  refine Stab.region_tail 9 12 [.fits Lit0, .is (.pointer (some ⟨x, 0, none⟩)), .is (.slice P np cp), .fits (fun v W => EO elB W w2.heap.size v s.vals), .fits Lit0, .is (.pointer (some ⟨x, 1, none⟩)), .is (.slice Q m d), .fits (fun v W => EO elD W w2.heap.size v l), .fits (fun v W => ∃ P n c Q m d, v = .agg #[.slice P n c, .slice Q m d] ∧ EO elB W w2.heap.size (.slice P n c) s.vals ∧ EO elD W w2.heap.size (.slice Q m d) l)] (by kernel_rfl) (by kernel_rfl) (by kernel_rfl) (by kernel_rfl) rfl rfl ?_ ?_
  · simp only [List.take_succ_cons, List.take_zero]
    with_reducible refine Stab.steps_cons ?_ ?_ ?_
    · refine owes_lit (t := 22) rfl (fun W hb => ?_) rfl
      go_simp
      exact ⟨below_new W _, _, rfl⟩
    · exact Lit0.stays
    with_reducible refine Stab.steps_cons ?_ ?_ ?_
    · exact Stab.owes_fieldAt rfl rfl (fun W => run_fD0 _ W) rfl
    · exact trivial
    with_reducible refine Stab.steps_cons ?_ ?_ ?_
    · exact Stab.owes_load rfl (fun v W hb hv => by subst hv; exact Stab.run_cellS _ _ _ _ _ W (cells2 (blk HX.out hb)).1) rfl
    · exact trivial
    with_reducible refine Stab.steps_cons ?_ ?_ ?_
    · exact owes_app elB Try.underlying22 rfl rfl rfl HA.out HLV.out (by decide) rfl
    · exact fun v w w' h hb => EO.keep h hb
    with_reducible refine Stab.steps_cons ?_ ?_ ?_
    · refine owes_lit (t := 23) rfl (fun W hb => ?_) rfl
      go_simp
      exact ⟨below_new W _, _, rfl⟩
    · exact Lit0.stays
    with_reducible refine Stab.steps_cons ?_ ?_ ?_
    · exact Stab.owes_fieldAt rfl rfl (fun W => run_fD1 _ W) rfl
    · exact trivial
    with_reducible refine Stab.steps_cons ?_ ?_ ?_
    · exact Stab.owes_load rfl (fun v W hb hv => by subst hv; exact run_cellC _ _ _ _ _ W (cells2 (blk HX.out hb)).2) rfl
    · exact trivial
    with_reducible refine Stab.steps_cons ?_ ?_ ?_
    · exact owes_app elD Try.underlying23 rfl rfl rfl HC.out HLC.out (by decide) rfl
    · exact fun v w w' h hb => EO.keep h hb
    with_reducible refine Stab.steps_cons ?_ ?_ ?_
    · refine Stab.owes_run rfl fun ρ W hb hρ => ?_
      have h6 := hρ (.tmp 6) (by simp [Op.operands])
      have h10 := hρ (.tmp 10) (by simp [Op.operands])
      have h6 : EO elB W w2.heap.size (ρ (.tmp 6)) s.vals := h6
      have h10 : EO elD W w2.heap.size (ρ (.tmp 10)) l := h10
      obtain ⟨A1, c1, e1⟩ := h6.form
      obtain ⟨A2, c2, e2⟩ := h10.form
      rw [e1] at h6
      rw [e2] at h10
      simp only [execOp, List.map_toArray, List.map_cons, List.map_nil, e1, e2, Sem.run_bind, run_bldD, Result.andThen_ok, Sem.run_pure]
      exact ⟨Below.refl _ _, _, _, _, _, _, _, rfl, h6, h10⟩
    · exact fun v w w' h hb => by
        obtain ⟨P, n, c, Q, m, d, h1, h2, h3⟩ := h
        exact ⟨P, n, c, Q, m, d, h1, h2.keep hb, h3.keep hb⟩
    exact Stab.steps_nil
  · simp only [List.take_succ_cons, List.take_zero, List.drop_succ_cons, List.drop_zero]
    intro y1 y2 y3 y4 y5 W hb hI
    obtain ⟨⟨P5, n5, c5, Q5, m5, d5, rfl, h6, h10⟩, _⟩ := hI
    have HW := Lib.hid (HB2.out.trans (hb.mono HB2.out.size))
    have HRW := Lib.hid (blk HR.out hb)
    obtain ⟨q0, q1⟩ := cells2 HRW.out
    have p0 := (cells_at HRW.out 0).2
    have p1 := (cells_at HRW.out 1).2
    have HE1 := Lib.hid h6
    have HE2 := Lib.hid h10
    have hrl : r < W.heap.size := lt_of_heap HRW.out
    have HRL : Hid (r < w2.heap.size) := lt_of_heap HR.out
    clear hb h6 h10
    simp only [Act.put, List.setIfInBounds_toArray, List.set_cons_succ, List.set_cons_zero]
    go_wp2
    have HW' := Lib.hid ((HW.out.setCell (p := ⟨r, 0, none⟩) HXR.out (.slice P5 n5 c5)).setCell (p := ⟨r, 1, none⟩) HXR.out (.slice Q5 m5 d5))
    have hk : ∀ k, w2.heap.size ≤ k → k < W.heap.size → ((W.setCell ⟨r, 0, none⟩ (.slice P5 n5 c5)).setCell ⟨r, 1, none⟩ (.slice Q5 m5 d5)).heap[k]? = W.heap[k]? := fun k h1 h2 =>
      (chg_set _ r 1 _ k (by rw [set_size]; exact h2) (by intro e; have := HRL.out; have := Option.some.inj e; omega)).trans (chg_set W r 0 _ k h2 (by intro e; have := HRL.out; have := Option.some.inj e; omega))
    have hf : ((W.setCell ⟨r, 0, none⟩ (.slice P5 n5 c5)).setCell ⟨r, 1, none⟩ (.slice Q5 m5 d5)).heap[r]? = some (.cells #[.slice P5 n5 c5, .slice Q5 m5 d5] 25 (0, 0)) := by
      rw [set_heap (set_heap HRW.out _)]
      rfl
    obtain ⟨f0, f1⟩ := cells2 hf
    generalize (W.setCell ⟨r, 0, none⟩ (.slice P5 n5 c5)).setCell ⟨r, 1, none⟩ (.slice Q5 m5 d5) = W' at *
    clear q0 q1 p0 p1
    refine bodyPost_ret (v := .agg #[.slice P5 n5 c5, .slice Q5 m5 d5]) (by simp [results, Try.results30, go_sem, f0, f1]) rfl ⟨⟨_, _, _, _, _, _, l, rfl, (HE1.out.stay hk).low HB2.out.size, (HE2.out.stay hk).low HB2.out.size, HML.out, HOB.out, HOK.out⟩, HW'.out⟩
theorem copied_any {v : Value} {s : Stk} {w : World} (h : StIs elD w v s) (hv : s.vals.length ≤ 400000) (hl : s.cs.length ≤ 400000) : Calls Try.prog 30 #[v] w (ThEnds s w) :=
  (copied_eo h hv hl).mono fun _ _ ⟨⟨_, _, _, _, _, _, l, h1, h2, h3, h4, h5, h6⟩, hb⟩ => ⟨⟨_, _, _, _, _, _, h1, _, _, l, rfl, h2.row h5, h3.row (fun p hp => (h6 p hp).keep hb), h4⟩, hb⟩
/-- 'append' to a row of the call's own or to a literal. -/
theorem run_appE {α : Type} (T : El α) (t : TypeId) (ht : Try.prog.underlying t = some (.slice T.e)) (w : World) (ty : TypeId) (B : Nat) (v x : Value) (done l : List α) (hown : EO T w B v done) (hl : Row T w x l) (hlen : done.length + l.length ≤ 1000000) (hby : T.bytes ≤ 100) (hB : B ≤ w.heap.size) :
    ∃ v' w', (Builtin.append_ #[t, t] ty #[v, x]).run Try.prog w = .ok v' w' ∧ EO T w' B v' (done ++ l) ∧ Below B w w' ∧ Chg w w' v.ownBlock := by
  rcases hown with ⟨a, rfl, rfl⟩ | hown
  · obtain ⟨v', w', h1, h2, h3⟩ := run_app0 T t ht w ty B a x l hl (by simp at hlen; omega) hby hB
    exact ⟨v', w', h1, h2, h3.mono hB, fun k hk _ => h3.block k hk⟩
  · obtain ⟨v', w', hr, h1, h2⟩ := run_rowsG T t ht w ty B v x done l hown hl hlen hby hB
    exact ⟨v', w', hr, .inr h1, (Below.refl _ _).grown h2 hB (fun k hk => (World.ownsRow.lt hown k hk).1), fun k hk hne => h2.block k hk hne⟩
theorem wp_appE {α : Type} (T : El α) {ops : Array Oper} {rest : List Oper} {o : Oper} {a : Act} {Q : Exit → Act → World → Prop} (t : TypeId) (ht : Try.prog.underlying t = some (.slice T.e)) (w : World) (hgd : o.guard = none) (s x : Operand)
    (ho : o.op = .call { callee := .builtin .append, args := #[s, x], argTypes := #[t, t] }) (B : Nat) (v x' : Value) (done l : List α) (hs : a.eval s = v) (hown : EO T w B v done)
    (hx : a.eval x = x') (hl : Row T w x' l) (hlen : done.length + l.length ≤ 1000000) (hby : T.bytes ≤ 100) (hB : B ≤ w.heap.size)
    (h : ∀ v' w', EO T w' B v' (done ++ l) → Below B w w' → Chg w w' v.ownBlock → wpList Try.prog ops Q rest (a.put o.dst v') w') : wpList Try.prog ops Q (o :: rest) a w := by
  refine wpList_plain hgd fun K hK => ?_
  obtain ⟨v', w', hr, h1, h2, h3⟩ := run_appE T t ht w o.type B v x' done l hown hl hlen hby hB
  unfold Oper.wp
  simp only [execOp, ho, resolve, invoke, builtin, Sem.run_bind, Sem.run_pure, Result.andThen_ok, List.map_toArray, List.map_cons, List.map_nil, hs, hx, hr]
  exact hK _ _ (h v' w' h1 h2 h3)
end Go.Proofs.Ytlappkflnlbfcaa.Stk
