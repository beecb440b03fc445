/- A statement whose operations Go may carry out in several orders, and whose last operations follow all others in one order: the first part as in Stab, the last ones as they stand. And calls of function values. -/
import Derived.Test.YtnminpbnlcgblaaStab
import Derived.StillTail
namespace Go.Proofs.Ytnminpbnlcgblaa.Stab
open Go Go.RowKit

section
variable {P : Program} {hd full : Array Oper} {w0 : World}

def noGuardB (ops : Array Oper) : Bool := ops.all fun o => o.guard.isNone
theorem noGuard_of {ops : Array Oper} (h : noGuardB ops = true) {i : Nat} {o : Oper} (ho : ops[i]? = some o) : o.guard = none := by
  have := (Array.all_eq_true_iff_forall_mem.1 h) o (Array.mem_of_getElem? ho)
  simpa using this

theorem any_tail {size n g : Nat} (hS : Sound hd size) (hG : noGuardB hd = true) (hn : hd.size = n) (hg : full.size = n + g) (hg0 : 0 < g) (hpre : ∀ i, i < n → full[i]? = hd[i]?)
    (hsk : Region.sinkB .any full n = true) (hch : Region.chainB .any full n = true) {tail : List Oper} (htl : ∀ j, tail[j]? = full[n + j]?) (hlt : tail.length = g)
    (hseq : Region.seqB .any full g n ((List.replicate n true ++ List.replicate g false).toArray) = true)
    {sp : List Sp} {a0 : Act} (h0 : a0.tmps.size = size) (hok : ∀ s ∈ sp, s.ok) (hlen : sp.length = n) {Q : Exit → Act → World → Prop}
    (hst : Steps P hd w0 a0 hd.toList sp []) (hen : Ends w0 (fun a w => wpList P full Q tail a w) hd.toList sp a0 (fun _ => True)) :
    ∀ (fuel : Nat) (listed : Array Bool) (rem : List Nat) (a : Act) (w : World), rem.Nodup → (∀ j, j ∈ rem ↔ j < n ∧ listed.getD j false = false) → rem.length = fuel → HeadInv .any full n listed → Inv hd sp w0 a0 listed a w →
      wpAny P .any full Q (fuel + g) listed a w := by
  have hgd : ∀ (listed : Array Bool) j, listed.size = full.size → j < full.size → listed.getD j true = listed.getD j false := fun listed j hs hj => by
    have : j < listed.size := by omega
    simp [this]
  intro fuel
  induction fuel with
  | zero =>
    intro listed rem a w hnd hrem hle hH hI
    have he : rem = [] := List.eq_nil_of_length_eq_zero hle
    have hall : ∀ j, j < n → listed.getD j false = true := fun j hj => by
      cases hc : listed.getD j false with
      | true => rfl
      | false =>
        have : j ∈ rem := (hrem j).2 ⟨hj, hc⟩
        rw [he] at this
        cases this
    have hL : listed = (List.replicate n true ++ List.replicate g false).toArray := by
      apply Array.ext
      · rw [hH.size, hg]; simp
      · intro i h1 h2
        have hi : i < full.size := by rw [← hH.size]; exact h1
        by_cases hin : i < n
        · have := hall i hin
          simp [h1] at this
          rw [this]
          simp [hin]
        · have := hH.tail i (by omega) hi
          simp [h1] at this
          rw [this]
          simp [List.getElem_append, hin]
    rw [Nat.zero_add, ← hlt]
    refine wpAny_of_seq tail n listed a w htl (by rw [hlt, hL]; exact hseq) ?_
    refine ends_at hd.toList sp a0 _ hen a w hI.size hI.defers hI.below trivial (fun j p s hp hs => ?_) (fun t ht => ?_)
    · have hp' : hd[j]? = some p := by simpa using hp
      obtain ⟨d, hd', hds⟩ := hS.dst j p hp'
      have hj : j < n := by have := (Array.getElem?_eq_some_iff.1 hp').1; omega
      exact ⟨d, hd', by rw [hI.size, h0]; exact hds, hI.new j p s d hp' hs (hall j hj) hd'⟩
    · exact hI.old t fun j p hp _ => ht j p (by simpa using hp)
  | succ fuel ih =>
    intro listed rem a w hnd hrem hle hH hI
    rw [show fuel + 1 + g = (fuel + g) + 1 from by omega]
    obtain ⟨j0, hj0⟩ : ∃ j, j ∈ rem := by
      cases rem with
      | nil => simp at hle
      | cons x xs => exact ⟨x, by simp⟩
    refine ⟨fun hr => ?_, fun i hi => ?_⟩
    · exfalso
      have : ∀ j, j ∉ rem := by
        intro j
        induction j using Nat.strongRecOn with
        | ind j IH =>
          intro hj
          obtain ⟨hlt', hun⟩ := (hrem j).1 hj
          have ho : hd[j]? = some hd[j] := Array.getElem?_eq_getElem (by omega)
          have : j ∈ Region.ready .any full listed := mem_ready.2 ⟨by rw [hgd listed j hH.size (by omega)]; exact hun, _, (hpre j hlt').trans ho, fun e he hb => by
            have hlt2 := hS.back j _ ho e he hb
            cases hc : listed.getD e.on false with
            | true => rfl
            | false => exact absurd ((hrem e.on).2 ⟨by omega, hc⟩) (IH e.on hlt2)⟩
          rw [hr] at this
          cases this
      exact this j0 hj0
    · have hin : i < n := by
        rcases Nat.lt_or_ge i n with h | h
        · exact h
        · obtain ⟨hlt', hun⟩ := (hrem j0).1 hj0
          exact absurd hi (tail_waits hsk hch (by omega) hH (n - j0) j0 rfl hlt' (by rw [hgd listed j0 hH.size (by omega)]; exact hun) i h)
      obtain ⟨h1, o, hof, haf⟩ := mem_ready.1 hi
      have ho : hd[i]? = some o := (hpre i hin).symm.trans hof
      rw [hgd listed i hH.size (by omega)] at h1
      obtain ⟨s, hs⟩ : ∃ s, sp[i]? = some s := ⟨sp[i], List.getElem?_eq_getElem (by omega)⟩
      have hstep : StepOk P hd o a w s := by
        obtain ⟨env', hob, hlk⟩ := owes_at hS hd.toList sp 0 [] (by simp) hst i o s (Nat.zero_le _) ho (by simpa using hs)
        refine hob a w hI.below fun t ht => ?_
        rcases hlk t with ⟨j, p, s', _, hji, hp, hs', hd', he⟩ | ⟨hno, he⟩
        · rw [he]
          rcases hS.looks i j o p t ho hp ht hd' with ⟨_, hbe⟩ | ⟨hij, _⟩
          · obtain ⟨e, he, hee⟩ := Array.any_eq_true'.1 hbe
            simp only [Bool.and_eq_true, beq_iff_eq] at hee
            have := haf e he hee.1
            rw [hee.2] at this
            exact hI.new j p s' t hp (by simpa using hs') this hd'
          · omega
        · rw [he]
          have hold := hI.old t fun j p hp hl hd' => by
            rcases hS.looks i j o p t ho hp ht hd' with ⟨hji, _⟩ | ⟨hij, hbe⟩
            · exact hno j p (Nat.zero_le _) hji hp hd'
            · obtain ⟨e, he, hee⟩ := Array.any_eq_true'.1 hbe
              simp only [Bool.and_eq_true, beq_iff_eq] at hee
              have := hI.shut j p hp hl e he hee.1
              rw [hee.2, h1] at this
              cases this
          show _ = _
          rw [Array.getD_eq_getD_getElem?, hold, ← Array.getD_eq_getD_getElem?]
      have his : i < listed.size := by rw [hH.size]; omega
      have next : ∀ v w', Below w.heap.size w w' → s.holds v w' → wpAny P .any full Q (fuel + g) (listed.setIfInBounds i true) (a.put o.dst v) w' := fun v w' hb hv => by
        have hir : i ∈ rem := (hrem i).2 ⟨hin, h1⟩
        refine ih _ (rem.erase i) _ _ (hnd.erase i) (fun j => ?_) (by rw [List.length_erase_of_mem hir]; omega) (hH.set hi hin) (hI.step hS h0 hok ho hs h1 his haf hb hv)
        rw [hnd.mem_erase_iff, hrem j]
        by_cases hij : i = j
        · subst hij
          simp [his]
        · rw [getD_set_ne false hij]
          exact ⟨fun h => h.2, fun h => ⟨fun e => hij e.symm, h⟩⟩
      have hgn := noGuard_of hG ho
      have hw : ∀ y, Region.wanted o y = true := fun y => by unfold Region.wanted; rw [hgn]
      unfold wpOp
      simp only [hof]
      unfold StepOk at hstep
      rw [if_pos (hw _)] at hstep
      rw [if_pos (hw _)]
      refine .inl ?_
      unfold Oper.wp
      generalize (execOp a.eval o).run P w = r at hstep ⊢
      cases r with
      | ok x w' =>
        cases x with
        | value v => exact next v w' hstep.1 hstep.2
        | skip => exact next _ w' hstep.1 hstep.2
        | enter f args =>
          refine Calls.mono hstep fun e w'' hq => ?_
          obtain ⟨v, rfl, hb, hv⟩ := hq
          exact next v w'' hb hv
        | row row args => exact Rows.mono hstep fun v w'' hq => next v w'' hq.1 hq.2
        | _ => exact hstep.elim
      | halt x w' => exact hstep.elim

/-- The region: the first n operations in whatever order, then the others. -/
theorem region_tail {id : Nat} {Q : Exit → Act → World → Prop} {a : Act} {l : List Oper} (n size : Nat) (sp : List Sp) (hm : P.follows .mixedOrders = true) (hB : okB (l.take n).toArray size = true) (hG : noGuardB (l.take n).toArray = true)
    (hT : (decide (n < l.length) && Region.sinkB .any l.toArray n && Region.chainB .any l.toArray n && Region.seqB .any l.toArray (l.length - n) n ((List.replicate n true ++ List.replicate (l.length - n) false).toArray)) = true)
    (hsz : a.tmps.size = size) (hlen : sp.length = n)
    (hst : Steps P (l.take n).toArray w0 a (l.take n) sp []) (hen : Ends w0 (fun a w => wpList P l.toArray Q (l.drop n) a w) (l.take n) sp a (fun _ => True)) : (Code.region id l.toArray true).wp P Q a w0 := by
  simp only [Bool.and_eq_true, decide_eq_true_eq] at hT
  obtain ⟨⟨⟨hn, hsk⟩, hch⟩, hseq⟩ := hT
  have htk : (l.take n).length = n := by simp; omega
  refine wp_region_any hm ?_
  have hS := ok_of hB
  have H := any_tail (P := P) (full := l.toArray) (w0 := w0) (n := n) (g := l.length - n) hS hG (by simpa using htk) (by simp; omega) (by omega) (fun i hi => by simp [hi]) hsk hch
    (tail := l.drop n) (fun j => by simp [List.getElem?_drop]) (by simp) hseq hsz (steps_ok (l.take n) sp [] hst (by omega)) hlen (Q := Q) (by simpa using hst) (by simpa using hen) n (Array.replicate l.toArray.size false) (List.range n) a { w0 with drawn := w0.drawn + 1 } List.nodup_range
    (fun j => by rw [List.mem_range, getD_replicate_false]; simp) (by simp)
    ⟨by simp, fun j oj _ hl => (by rw [getD_replicate_false] at hl; cases hl), fun t _ ht => getD_in (by simpa using ht) (getD_replicate_false _ _)⟩
    ⟨⟨rfl, rfl, rfl, Nat.le_refl _, fun _ _ => rfl⟩, rfl, rfl, fun t _ => rfl, fun j p s t hp hs hl _ => (by rw [getD_replicate_false] at hl; cases hl), fun j p hp hl => (by rw [getD_replicate_false] at hl; cases hl)⟩
  have e : n + (l.length - n) = l.toArray.size := by simp; omega
  rw [e] at H
  exact H
end

section
variable {P : Program} {ops : Array Oper} {w0 : World} {a0 : Act} {env : List (Tmp × Sp)} {o : Oper}
theorem run_fn {P : Program} {f : FuncId} {fn : Func} (hf : P.funcs[f]? = some fn) (hn : (fn.name == "runtime.NumGoroutine") = false) (hb : fn.body.isNone = false) (caps args : Array Value) (w : World) :
    (do invoke (.fn (.func f) caps) args : Sem Next).run P w = .ok (.enter f (args ++ caps)) w := run_enter hf hn hb _ w
/-- A function value that can be called: a function of the program, and what it captured. -/
def FnOk (P : Program) (k : FuncId) : Prop := ∃ fn, P.funcs[k]? = some fn ∧ (fn.name == "runtime.NumGoroutine") = false ∧ fn.body.isNone = false
theorem owes_callv {s : Sp} {c : Operand} {xs : List Operand} {ts : Array TypeId} (ho : o.op = .call { callee := .value c, args := xs.toArray, argTypes := ts })
    (hr : ∀ F vs w, Below w0.heap.size w0 w → (evalS a0 env c).holds F w → All a0 env xs vs w → ∃ k caps, F = .func (.func k) #[] caps ∧ FnOk P k ∧ Calls P k (vs.toArray ++ caps) w fun e w' => ∃ v, e = .returned v ∧ Below w.heap.size w w' ∧ s.holds v w') (hw : wantB ops a0 env o = true) : Owes P ops w0 a0 env o s :=
  owes_run hw fun ρ w hb hρ => by
    obtain ⟨k, caps, hF, ⟨fn, hf, hn, hbo⟩, h1⟩ := hr _ _ w hb (hρ c (by simp [ho, Op.operands, Call.operands])) (all_of xs fun x hx => hρ x (by simp [ho, Op.operands, Call.operands, hx]))
    simp only [execOp, ho, resolve, hF]
    simp [go_sem, invoke, Deferred.ofValue]
    rw [run_enter hf hn hbo]
    simpa [YieldOk] using h1
/-- 'x[:y]' of what is known. -/
theorem owes_upto {c : Value} {t : TypeId} {x y : Operand} {vx vy : Value} (ho : o.op = .slice t x none (some y) none) (hx : evalS a0 env x = .is vx) (hy : evalS a0 env y = .is vy)
    (hr : ∀ w, (Instr.sliceAt t vx none (some vy) none).run P w = .ok c w) (hw : wantB ops a0 env o = true) : Owes P ops w0 a0 env o (.is c) :=
  owes_run hw fun ρ w _ hρ => by
    have h1 := hρ x (by simp [ho, Op.operands])
    have h2 := hρ y (by simp [ho, Op.operands])
    rw [hx] at h1
    rw [hy] at h2
    have h1 : ρ x = vx := h1
    have h2 : ρ y = vy := h2
    simp only [execOp, ho, h1, h2, Option.map_none, Option.map_some]
    rw [Sem.run_bind, hr w]
    exact ⟨Below.refl _ _, rfl⟩
theorem owes_alloc {s : Sp} {t : TypeId} (ho : o.op = .alloc t) (hr : ∀ w, Below w0.heap.size w0 w → YieldOk P w s.holds ((execOp (fun _ => undef) o).run P w)) (hw : wantB ops a0 env o = true) : Owes P ops w0 a0 env o s :=
  owes_run hw fun ρ w hb hρ => by
    have := hr w hb
    simp only [execOp, ho] at this ⊢
    exact this
end
end Go.Proofs.Ytnminpbnlcgblaa.Stab
