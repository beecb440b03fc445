/- ChkFrame, ChkUp, ChkUp2, ChkUp3, ChkUp4, ChkMoreM. -/
import Derived.Test.YtlappkflnlbfcaaGreatDoorPkChkPrim
import Derived.Test.YtlappkflnlbfcaaGreatDoorPkStkFrame
import Derived.Test.YtlappkflnlbfcaaGreatDoorPkInsFrame
import Derived.Lib.SmallJoins
import Derived.ProofKit
import Derived.OpenShut
import Derived.Deep.Slices
import Derived.Test.YtlappkflnlbfcaaGreatDoorPkChkEnvC
import Derived.Test.YtlappkflnlbfcaaGreatDoorPkBodAppend
section
/- What came in, as the statements of layer 10 take it: an Env (gen_ckframe.py). -/
namespace Go.Proofs.YtlappkflnlbfcaaGreatDoor.Chk
open Go.ChangeShapes Go.WideShapes Go.ChangeAt Go.RowKit Go.Joins Row9 Stk
set_option maxRecDepth 100000
set_option maxHeartbeats 400000
set_option linter.unusedVariables false
theorem cFn : Tryz.prog.cellsOf 51 = 2 := by kernel_rfl
theorem cGl : Tryz.prog.cellsOf 81 = 2 := by kernel_rfl
theorem cEnv : Tryz.prog.cellsOf 27 = 7 := by kernel_rfl
theorem cFns : Tryz.prog.cellsOf 22 = 1 := by kernel_rfl
theorem cNums : Tryz.prog.cellsOf 23 = 1 := by kernel_rfl
theorem cGls : Tryz.prog.cellsOf 24 = 1 := by kernel_rfl
section
variable {H : Type} {enc : TypeId × Value → H} {w : World} {base : Nat}
theorem int_each {n : Nat} {cs : List Value} {y : DataW H × List MemPlace} (hl : cs.length = 1) (h : DataW.trod enc Tryz.prog w base (fun _ => true) true n 3 cs = some y) : ∃ q : Int, elI.ok w q ∧ elI.enc q = cs := by
  obtain ⟨op, e0, _, w0⟩ := DataW.trod_int Tryz.underlying3 (x := y) h
  exact ⟨op, w64_of w0, e0.symm⟩
theorem nums_of {n : Nat} {v : Value} {y : DataW H × List MemPlace} (h : DataW.trod enc Tryz.prog w base (fun _ => true) true n 23 [v] = some y) : ∃ l, Row elI w v l :=
  row_of elI Tryz.underlying23 Stk.cInt (fun hl hh => int_each hl hh) h
theorem fn_each {n : Nat} {cs : List Value} {y : DataW H × List MemPlace} (hl : cs.length = 2) (h : DataW.trod enc Tryz.prog w base (fun _ => true) true n 51 cs = some y) : ∃ q : FnV, elF.ok w q ∧ elF.enc q = cs := by
  match cs, hl with
  | [c0, c1], _ =>
    obtain ⟨ys, m, _, _, _, hlen, hf⟩ := DataW.trod_struct Tryz.underlying51 h
    have h0 : DataW.trod enc Tryz.prog w base (fun _ => true) true m 25 (([c0, c1].drop 0).take (Tryz.prog.cellsOf 25)) = ys[0]? := hf 0 _ rfl
    have h1 : DataW.trod enc Tryz.prog w base (fun _ => true) true m 25 (([c0, c1].drop 1).take (Tryz.prog.cellsOf 25)) = ys[1]? := hf 1 _ rfl
    rw [Stk.cSl] at h0 h1
    match ys, hlen with
    | [y0, y1], _ =>
      obtain ⟨l0, r0⟩ := bytes_of (v := c0) (y := y0) (by simpa using h0)
      obtain ⟨l1, r1⟩ := bytes_of (v := c1) (y := y1) (by simpa using h1)
      exact ⟨((l0, l1), (c0, c1)), ⟨r0, r1⟩, rfl⟩
theorem fns_of {n : Nat} {v : Value} {y : DataW H × List MemPlace} (h : DataW.trod enc Tryz.prog w base (fun _ => true) true n 22 [v] = some y) : ∃ l, Row elF w v l :=
  row_of elF Tryz.underlying22 cFn (fun hl hh => fn_each hl hh) h
theorem gl_each {n : Nat} {cs : List Value} {y : DataW H × List MemPlace} (hl : cs.length = 2) (h : DataW.trod enc Tryz.prog w base (fun _ => true) true n 81 cs = some y) : ∃ q : Int × Bool, elGD.ok w q ∧ elGD.enc q = cs := by
  match cs, hl with
  | [c0, c1], _ =>
    obtain ⟨ys, m, _, _, _, hlen, hf⟩ := DataW.trod_struct Tryz.underlying81 h
    have h0 : DataW.trod enc Tryz.prog w base (fun _ => true) true m 5 (([c0, c1].drop 0).take (Tryz.prog.cellsOf 5)) = ys[0]? := hf 0 _ rfl
    have h1 : DataW.trod enc Tryz.prog w base (fun _ => true) true m 4 (([c0, c1].drop 1).take (Tryz.prog.cellsOf 4)) = ys[1]? := hf 1 _ rfl
    rw [cU8] at h0
    rw [Stk.cBool] at h1
    match ys, hlen with
    | [y0, y1], _ =>
      obtain ⟨a, e0, _, w0⟩ := DataW.trod_int Tryz.underlying5 (x := y0) (by rw [h0]; rfl)
      obtain ⟨x, e1, _⟩ := DataW.trod_bool Tryz.underlying4 (x := y1) (by rw [h1]; rfl)
      simp at e0 e1
      subst e0 e1
      have := bounds_u8 w0
      exact ⟨(a, x), ⟨by omega, by omega⟩, rfl⟩
theorem gls_of {n : Nat} {v : Value} {y : DataW H × List MemPlace} (h : DataW.trod enc Tryz.prog w base (fun _ => true) true n 24 [v] = some y) : ∃ l, Row elGD w v l :=
  row_of elGD Tryz.underlying24 cGl (fun hl hh => gl_each hl hh) h
theorem array7 {α : Type} {cs : Array α} (h : cs.size = 7) : ∃ c0 c1 c2 c3 c4 c5 c6, cs = #[c0, c1, c2, c3, c4, c5, c6] := by
  obtain ⟨l⟩ := cs
  match l, h with
  | [c0, c1, c2, c3, c4, c5, c6], _ => exact ⟨c0, c1, c2, c3, c4, c5, c6, rfl⟩
theorem env_of {r : Reach} {b0 : Nat} {v : Value} {d : DataW H} {p : List MemPlace} (hv : Value.okWide Tryz.prog w r b0 27 v) (h : DataW.Trod enc Tryz.prog w base (fun _ => true) true 27 v d p) : ∃ V E, v = evV V E ∧ EnvOk elGD w V E := by
  obtain ⟨cs, rfl, hsz⟩ := okWide_struct Tryz.underlying27 hv
  obtain ⟨c0, c1, c2, c3, c4, c5, c6, rfl⟩ := array7 (hsz.trans cEnv)
  obtain ⟨fuel, hf0⟩ := h
  have hf1 : DataW.trod enc Tryz.prog w base (fun _ => true) true fuel 27 [c0, c1, c2, c3, c4, c5, c6] = some (d, p) := by simpa [Value.cells] using hf0
  obtain ⟨ys, m, _, _, _, hlen, hf⟩ := DataW.trod_struct Tryz.underlying27 hf1
  have h0 : DataW.trod enc Tryz.prog w base (fun _ => true) true m 22 (([c0, c1, c2, c3, c4, c5, c6].drop 0).take (Tryz.prog.cellsOf 22)) = ys[0]? := hf 0 _ rfl
  have h1 : DataW.trod enc Tryz.prog w base (fun _ => true) true m 23 (([c0, c1, c2, c3, c4, c5, c6].drop 1).take (Tryz.prog.cellsOf 23)) = ys[1]? := hf 1 _ rfl
  have h2 : DataW.trod enc Tryz.prog w base (fun _ => true) true m 3 (([c0, c1, c2, c3, c4, c5, c6].drop 2).take (Tryz.prog.cellsOf 3)) = ys[2]? := hf 2 _ rfl
  have h3 : DataW.trod enc Tryz.prog w base (fun _ => true) true m 3 (([c0, c1, c2, c3, c4, c5, c6].drop 3).take (Tryz.prog.cellsOf 3)) = ys[3]? := hf 3 _ rfl
  have h4 : DataW.trod enc Tryz.prog w base (fun _ => true) true m 24 (([c0, c1, c2, c3, c4, c5, c6].drop 4).take (Tryz.prog.cellsOf 24)) = ys[4]? := hf 4 _ rfl
  have h5 : DataW.trod enc Tryz.prog w base (fun _ => true) true m 25 (([c0, c1, c2, c3, c4, c5, c6].drop 5).take (Tryz.prog.cellsOf 25)) = ys[5]? := hf 5 _ rfl
  have h6 : DataW.trod enc Tryz.prog w base (fun _ => true) true m 25 (([c0, c1, c2, c3, c4, c5, c6].drop 6).take (Tryz.prog.cellsOf 25)) = ys[6]? := hf 6 _ rfl
  rw [cFns] at h0
  rw [cNums] at h1
  rw [Stk.cInt] at h2 h3
  rw [cGls] at h4
  rw [Stk.cSl] at h5 h6
  match ys, hlen with
  | [y0, y1, y2, y3, y4, y5, y6], _ =>
    obtain ⟨l0, r0⟩ := fns_of (v := c0) (y := y0) (by simpa using h0)
    obtain ⟨l1, r1⟩ := nums_of (v := c1) (y := y1) (by simpa using h1)
    obtain ⟨a2, e2, _, w2⟩ := DataW.trod_int Tryz.underlying3 (x := y2) (by rw [h2]; rfl)
    obtain ⟨a3, e3, _, w3⟩ := DataW.trod_int Tryz.underlying3 (x := y3) (by rw [h3]; rfl)
    obtain ⟨l4, r4⟩ := gls_of (v := c4) (y := y4) (by simpa using h4)
    obtain ⟨l5, r5⟩ := bytes_of (v := c5) (y := y5) (by simpa using h5)
    obtain ⟨l6, r6⟩ := bytes_of (v := c6) (y := y6) (by simpa using h6)
    simp at e2 e3
    subst e2 e3
    obtain ⟨P0, k0, rfl, _⟩ := r0.form
    obtain ⟨P1, k1, rfl, _⟩ := r1.form
    obtain ⟨P4, k4, rfl, _⟩ := r4.form
    obtain ⟨P5, k5, rfl, _⟩ := r5.form
    obtain ⟨P6, k6, rfl, _⟩ := r6.form
    exact ⟨⟨P0, l0.length, k0, P1, l1.length, k1, P4, l4.length, k4, P5, l5.length, k5, P6, l6.length, k6⟩, ⟨l0.map (·.1), l1, a2, a3, l4, l5, l6⟩, rfl, ⟨l0, r0, rfl⟩, r1, r4, r5, r6, w64_of w2, w64_of w3⟩
end
end Go.Proofs.YtlappkflnlbfcaaGreatDoor.Chk
end

section
/- A step that may be is one where more is dead, or open: plain. -/
namespace Go.Proofs.YtlappkflnlbfcaaGreatDoor.Chk
open Go.RowKit Row9 Stk
set_option maxRecDepth 100000
set_option maxHeartbeats 1000000
set_option linter.unusedVariables false
variable {pr : List Ctl} {f : List Int} {g : Bool}
/-- A block, and one that is as it but for being dead. -/
structure ClD (c c' : Ctl) : Prop where
  ht : c'.ht = c.ht
  dead : c.dead = true → c'.dead = true
structure Cl (c c' : Ctl) : Prop where
  op : c'.op = c.op
  fin : c'.fin = c.fin
  ht : c'.ht = c.ht
  dead : c.dead = true → c'.dead = true
inductive Cls : List Ctl → List Ctl → Prop
  | nil : Cls [] []
  | cons {a b : Ctl} {l l' : List Ctl} : Cl a b → Cls l l' → Cls (a :: l) (b :: l')
/-- A stack, and one with more blocks below, more of them dead, and whatever the outermost ends with. -/
structure Up (pr : List Ctl) (f : List Int) (g : Bool) (s s' : Stk) : Prop where
  vals : s'.vals = s.vals
  cs : ∃ c0 c0' r r', s.cs = c0 :: r ∧ s'.cs = pr ++ c0' :: r' ∧ ClD c0 c0' ∧ c0.op = 2 ∧ (c0'.op = 2 ∧ c0'.fin = f ∧ (g = true → c0'.dead = true)) ∧ Cls r r'
  s1 : sane s = true
  s2 : sane s' = true
def UpR (pr : List Ctl) (f : List Int) (g : Bool) (x x' : Rs) : Prop := ∀ s, x = .ok s → ∃ s', x' = .ok s' ∧ Up pr f g s s'
theorem popV_up {c c' : Ctl} (h : ClD c c') {vals : List Int} {r : List Int × Int} (e : popV (some c) vals = some r) : popV (some c') vals = some r := by
  unfold popV at e ⊢
  simp only at e ⊢
  rw [h.ht]
  split at e
  · rename_i q
    rw [if_pos q]
    exact e
  · rename_i q
    rw [if_neg q]
    split at e
    · rename_i d
      rw [if_pos (h.dead d)]
      exact e
    · cases e
theorem wantV_up {c c' : Ctl} (h : ClD c c') : ∀ (r : List Int) {vals vs : List Int}, wantV (some c) vals r = some vs → wantV (some c') vals r = some vs
  | [], _, _, e => e
  | x :: r, vals, vs, e => by
    rw [wantV] at e ⊢
    cases hp : popV (some c) vals with
    | none => rw [hp] at e; cases e
    | some q =>
      rw [popV_up h hp]
      rw [hp] at e
      obtain ⟨vs1, v⟩ := q
      simp only at e ⊢
      split at e
      · rename_i hf
        rw [if_pos hf]
        exact wantV_up h r e
      · cases e
theorem f2_last {r r' : List Ctl} (h : Cls r r') : (r = [] ∧ r' = []) ∨ ∃ q c q' c', r = q ++ [c] ∧ r' = q' ++ [c'] ∧ Cl c c' ∧ Cls q q' := by
  induction h with
  | nil => exact .inl ⟨rfl, rfl⟩
  | cons h1 h2 ih =>
    rename_i a b l l'
    right
    rcases ih with ⟨rfl, rfl⟩ | ⟨q, c, q', c', rfl, rfl, h3, h4⟩
    · exact ⟨[], a, [], b, rfl, rfl, h1, .nil⟩
    · exact ⟨a :: q, c, b :: q', c', rfl, rfl, h3, .cons h1 h4⟩
/-- The innermost blocks. -/
theorem Up.last {s s' : Stk} (h : Up pr f g s s') : ∃ c c', s.cs.getLast? = some c ∧ s'.cs.getLast? = some c' ∧ ClD c c' := by
  obtain ⟨c0, c0', r, r', h1, h2, h3, _, _, h4⟩ := h.cs
  rcases f2_last h4 with ⟨rfl, rfl⟩ | ⟨q, c, q', c', rfl, rfl, h5, h6⟩
  · exact ⟨c0, c0', by rw [h1]; rfl, by rw [h2]; simp, h3⟩
  · refine ⟨c, c', by rw [h1, ← List.cons_append, List.getLast?_concat], ?_, ⟨h5.ht, h5.dead⟩⟩
    rw [h2, ← List.cons_append, ← List.append_assoc, List.getLast?_concat]
theorem Up.of {s s' t t' : Stk} (h : Up pr f g s s') (e : t.cs = s.cs) (e' : t'.cs = s'.cs) (hv : t'.vals = t.vals) (h1 : sane t = true) (h2 : sane t' = true) : Up pr f g t t' := ⟨hv, by rw [e, e']; exact h.cs, h1, h2⟩
theorem UpR.push {x x' : Rs} {l : List Int} (h : UpR pr f g x x') : UpR pr f g (pushR l x) (pushR l x') := fun t ht => by
  obtain ⟨s, rfl, h2⟩ := bind_ok ht
  obtain ⟨s', rfl, hu⟩ := h s rfl
  obtain ⟨h3, rfl⟩ := ofP_ok h2
  cases hl : l.any noT with
  | true => rw [push_no hu.s1 hl] at h3; exact absurd h3 (by decide)
  | false =>
    refine ⟨⟨s'.vals ++ l, s'.cs⟩, ?_, ?_⟩
    · show ofP (pushS s' l) = _
      rw [push_ok hu.s2 hl]
      rfl
    · rw [push_ok hu.s1 hl]
      exact hu.of rfl rfl (by simp only; rw [hu.vals]) (push_sane hu.s1 hl) (push_sane hu.s2 hl)
theorem UpR.want {x x' : Rs} {l : List Int} (h : UpR pr f g x x') : UpR pr f g (wantR l x) (wantR l x') := fun t ht => by
  have hok := ht
  obtain ⟨s, rfl, h2⟩ := bind_ok ht
  obtain ⟨s', rfl, hu⟩ := h s rfl
  obtain ⟨c, c', g, g', hc⟩ := hu.last
  obtain ⟨h3, rfl⟩ := ofP_ok h2
  have e1 : wantS s l = match wantV (some c) s.vals l.reverse with | none => (none_, 5) | some vs => (⟨vs, s.cs⟩, 0) := by
    unfold wantS
    rw [if_neg (by rw [hu.s1]; simp), g]
    rfl
  have e2 : wantS s' l = match wantV (some c') s.vals l.reverse with | none => (none_, 5) | some vs => (⟨vs, s'.cs⟩, 0) := by
    unfold wantS
    rw [if_neg (by rw [hu.s2]; simp), g', hu.vals]
    rfl
  cases hw : wantV (some c) s.vals l.reverse with
  | none => rw [e1, hw] at h3; exact absurd (show (5 : Int) = 0 from h3) (by decide)
  | some vs =>
    rw [hw] at e1
    rw [wantV_up hc _ hw] at e2
    refine ⟨⟨vs, s'.cs⟩, ?_, ?_⟩
    · show ofP (wantS s' l) = _
      rw [e2]
      rfl
    · rw [e1]
      refine hu.of rfl rfl rfl ?_ ?_
      · exact wantV_sane _ (by have := hu.s1; exact this) (by rw [g]; exact hw)
      · exact wantV_sane (vals := s.vals) _ (by have := hu.s2; rw [← hu.vals]; exact this) (by rw [g']; exact wantV_up hc _ hw)
theorem UpR.need {x x' : Rs} {b : Bool} {e : Int} (h : UpR pr f g x x') : UpR pr f g (needR b e x) (needR b e x') := fun t ht => by
  have hb := need_true ht
  obtain ⟨s', h1, hu⟩ := h t (need_same ht)
  subst hb
  subst h1
  exact ⟨s', rfl, hu⟩
theorem popS_up {s s' : Stk} (hu : Up pr f g s s') (h0 : (popS s).2.2 = 0) : (popS s').2 = (popS s).2 ∧ Up pr f g (popS s).1 (popS s').1 := by
  obtain ⟨c, c', g, g', hc⟩ := hu.last
  have e1 : popS s = match popV (some c) s.vals with | none => (none_, 0, 5) | some (vs, v) => (⟨vs, s.cs⟩, v, 0) := by
    unfold popS
    rw [if_neg (by rw [hu.s1]; simp), g]
    rfl
  have e2 : popS s' = match popV (some c') s.vals with | none => (none_, 0, 5) | some (vs, v) => (⟨vs, s'.cs⟩, v, 0) := by
    unfold popS
    rw [if_neg (by rw [hu.s2]; simp), g', hu.vals]
    rfl
  cases hw : popV (some c) s.vals with
  | none => rw [e1, hw] at h0; exact absurd (show (5 : Int) = 0 from h0) (by decide)
  | some p =>
    obtain ⟨vs, v⟩ := p
    rw [hw] at e1
    have hw' := popV_up hc hw
    rw [hw'] at e2
    rw [e1, e2]
    refine ⟨rfl, hu.of rfl rfl rfl ?_ ?_⟩
    · exact popV_sane (vals := s.vals) hu.s1 (by rw [g]; exact hw)
    · exact popV_sane (vals := s.vals) (by rw [← hu.vals]; exact hu.s2) (by rw [g']; exact hw')
theorem UpR.pop {x x' : Rs} (h : UpR pr f g x x') : UpR pr f g (popR x) (popR x') := fun t ht => by
  obtain ⟨s, rfl, h2⟩ := bind_ok ht
  obtain ⟨s', rfl, hu⟩ := h s rfl
  obtain ⟨h3, rfl⟩ := ofP_ok h2
  obtain ⟨e1, e2⟩ := popS_up hu h3
  refine ⟨(popS s').1, ?_, e2⟩
  show ofP ((popS s').1, (popS s').2.2) = _
  unfold ofP
  rw [if_pos (by rw [e1]; exact h3)]
theorem popB_up {x x' : Rs} (h : UpR pr f g x x') {t : Stk} (ht : popR x = .ok t) : popB x' = popB x := by
  obtain ⟨s, rfl, h2⟩ := bind_ok ht
  obtain ⟨s', rfl, hu⟩ := h s rfl
  obtain ⟨h3, rfl⟩ := ofP_ok h2
  show (popS s').2.1 = (popS s).2.1
  rw [(popS_up hu h3).1]
theorem UpR.open {x x' : Rs} {op : Int} {l : List Int} (h : UpR pr f g x x') : UpR pr f g (openR op l x) (openR op l x') := fun t ht => by
  obtain ⟨s, rfl, h2⟩ := bind_ok ht
  obtain ⟨s', rfl, hu⟩ := h s rfl
  obtain ⟨h3, rfl⟩ := ofP_ok h2
  cases hl : mayE l with
  | false =>
    unfold openS at h3
    rw [if_neg (by rw [hu.s1]; simp), if_pos hl] at h3
    exact absurd h3 (by decide)
  | true =>
    refine ⟨⟨s'.vals, s'.cs ++ [⟨op, l, s'.vals.length, false⟩]⟩, ?_, ?_⟩
    · show ofP (openS s' op l) = _
      rw [open_ok hu.s2 hl]
      rfl
    · rw [open_ok hu.s1 hl]
      refine ⟨hu.vals, ?_, open_sane hu.s1 hl, open_sane hu.s2 hl⟩
      obtain ⟨c0, c0', r, r', h1, h2, h3, h4, h5, h6⟩ := hu.cs
      refine ⟨c0, c0', r ++ [⟨op, l, s.vals.length, false⟩], r' ++ [⟨op, l, s'.vals.length, false⟩], by simp only [h1, List.cons_append], by simp only [h2, List.append_assoc, List.cons_append], h3, h4, h5, ?_⟩
      clear h1 h2 h3 h4 h5
      rw [hu.vals]
      induction h6 with
      | nil => exact .cons ⟨rfl, rfl, rfl, fun e => e⟩ .nil
      | cons a _ ih => exact .cons a ih
end Go.Proofs.YtlappkflnlbfcaaGreatDoor.Chk
end

section
/- A step that may be is one where more is dead, or open: kill and close; plain. -/
namespace Go.Proofs.YtlappkflnlbfcaaGreatDoor.Chk
open Go.RowKit Row9 Stk
set_option maxRecDepth 100000
set_option maxHeartbeats 1000000
set_option linter.unusedVariables false
variable {pr : List Ctl} {f : List Int} {g : Bool}
theorem cls_snoc {q q' : List Ctl} {c c' : Ctl} (h : Cls q q') (hc : Cl c c') : Cls (q ++ [c]) (q' ++ [c']) := by
  induction h with
  | nil => exact .cons hc .nil
  | cons a _ ih => exact .cons a ih
theorem kill_at {s : Stk} (hs : sane s = true) {q : List Ctl} {c : Ctl} (hc : s.cs = q ++ [c]) : killS s = (⟨s.vals.take c.ht.toNat, q ++ [{ c with dead := true }]⟩, 0) := killS_last hs hc
theorem UpR.kill {x x' : Rs} (h : UpR pr f g x x') : UpR pr f g (killR x) (killR x') := fun t ht => by
  obtain ⟨s, rfl, h2⟩ := bind_ok ht
  obtain ⟨s', rfl, hu⟩ := h s rfl
  obtain ⟨h3, rfl⟩ := ofP_ok h2
  obtain ⟨c0, c0', r, r', h1, h2', h3', h4, h5, h6⟩ := hu.cs
  rcases f2_last h6 with ⟨rfl, rfl⟩ | ⟨q, c, q', c', rfl, rfl, h7, h8⟩
  · have e1 := kill_at hu.s1 (q := []) (c := c0) h1
    have e2 := kill_at hu.s2 (q := pr) (c := c0') h2'
    refine ⟨⟨s'.vals.take c0'.ht.toNat, pr ++ [{ c0' with dead := true }]⟩, ?_, ?_⟩
    · show ofP (killS s') = _
      rw [e2]
      rfl
    · rw [e1]
      refine ⟨by simp only; rw [hu.vals, h3'.ht], ⟨_, _, [], [], rfl, rfl, ⟨h3'.ht, fun _ => rfl⟩, h4, ⟨h5.1, h5.2.1, fun _ => rfl⟩, .nil⟩, kill_sane hu.s1 h1, kill_sane hu.s2 h2'⟩
  · have g1 : s.cs = (c0 :: q) ++ [c] := by rw [h1, List.cons_append]
    have g2 : s'.cs = (pr ++ c0' :: q') ++ [c'] := by rw [h2', List.append_assoc, List.cons_append]
    have e1 := kill_at hu.s1 g1
    have e2 := kill_at hu.s2 g2
    refine ⟨⟨s'.vals.take c'.ht.toNat, (pr ++ c0' :: q') ++ [{ c' with dead := true }]⟩, ?_, ?_⟩
    · show ofP (killS s') = _
      rw [e2]
      rfl
    · rw [e1]
      refine ⟨by simp only; rw [hu.vals, h7.ht], ⟨c0, c0', q ++ [{ c with dead := true }], q' ++ [{ c' with dead := true }], by simp only [List.cons_append], by simp only [List.append_assoc, List.cons_append], h3', h4, h5, cls_snoc h8 ⟨h7.op, h7.fin, h7.ht, fun _ => rfl⟩⟩, kill_sane hu.s1 g1, kill_sane hu.s2 g2⟩
/-- A block inside, closed: the same block told. -/
theorem close_up {s s' : Stk} (hu : Up pr f g s s') (h2 : 2 ≤ s.cs.length) (h0 : (closeS s).2.2 = 0) : (closeS s').2.2 = 0 ∧ (closeS s').2.1.op = (closeS s).2.1.op ∧ (closeS s').2.1.fin = (closeS s).2.1.fin ∧ Up pr f g (closeS s).1 (closeS s').1 := by
  obtain ⟨c0, c0', r, r', h1, h2', h3', h4, h5, h6⟩ := hu.cs
  rcases f2_last h6 with ⟨rfl, rfl⟩ | ⟨q, c, q', c', rfl, rfl, h7, h8⟩
  · rw [h1] at h2
    simp at h2
  · have g1 : s.cs = (c0 :: q) ++ [c] := by rw [h1, List.cons_append]
    have g2 : s'.cs = (pr ++ c0' :: q') ++ [c'] := by rw [h2', List.append_assoc, List.cons_append]
    have e1 := close_last hu.s1 g1
    have e2 := close_last hu.s2 g2
    rw [hu.vals, h7.fin, h7.ht] at e2
    cases hw : wantV (some c) s.vals c.fin.reverse with
    | none => rw [e1, hw] at h0; exact absurd (show (5 : Int) = 0 from h0) (by decide)
    | some vs =>
      have hw' := wantV_up (c' := c') ⟨h7.ht, h7.dead⟩ _ hw
      rw [hw] at e1
      rw [hw'] at e2
      simp only at e1 e2
      by_cases hl : (vs.length : Int) ≠ c.ht
      · rw [e1, if_pos hl] at h0
        exact absurd (show (5 : Int) = 0 from h0) (by decide)
      · rw [if_neg hl] at e1 e2
        have k1 := act_sane s ⟨6, 0, []⟩ hu.s1 (by rw [act_close rfl]; exact h0)
        have k2 := act_sane s' ⟨6, 0, []⟩ hu.s2 (by rw [act_close rfl, e2])
        rw [act_close rfl, e1] at k1
        rw [act_close rfl, e2] at k2
        rw [e1, e2]
        exact ⟨rfl, h7.op, h7.fin, ⟨rfl, ⟨c0, c0', q, q', rfl, rfl, h3', h4, h5, h8⟩, k1, k2⟩⟩
end Go.Proofs.YtlappkflnlbfcaaGreatDoor.Chk
end

section
/- A step that may be is one where more is dead, or open: any instruction but a branch; plain. -/
namespace Go.Proofs.YtlappkflnlbfcaaGreatDoor.Chk
open Go.RowKit Row9 Stk
set_option maxRecDepth 100000
set_option maxHeartbeats 1000000
set_option linter.unusedVariables false
variable {pr : List Ctl} {f : List Int} {g : Bool}
theorem UpR.ite {c : Prop} [Decidable c] {x y x' y' : Rs} (h1 : UpR pr f g x x') (h2 : UpR pr f g y y') : UpR pr f g (if c then x else y) (if c then x' else y') := by
  split
  · exact h1
  · exact h2
theorem cls_len {r r' : List Ctl} (h : Cls r r') : r'.length = r.length := by
  induction h with
  | nil => rfl
  | cons _ _ ih => simp only [List.length_cons, ih]
theorem up_len {s s' : Stk} (h : Up pr f g s s') : s.cs.length ≤ s'.cs.length := by
  obtain ⟨c0, c0', r, r', h1, h2, _, _, _, h6⟩ := h.cs
  rw [h1, h2, List.length_append, List.length_cons, List.length_cons, cls_len h6]
  omega
theorem last_eq {s : Stk} {c : Ctl} (h : s.cs.getLast? = some c) : lastOp s = c.op := by
  unfold lastOp
  rw [h]
theorem up_lastOp {s s' : Stk} (h : Up pr f g s s') (h2 : 2 ≤ s.cs.length) : lastOp s' = lastOp s := by
  obtain ⟨c0, c0', r, r', h1, h2', _, _, _, h6⟩ := h.cs
  rcases f2_last h6 with ⟨rfl, rfl⟩ | ⟨q, c, q', c', rfl, rfl, h7, h8⟩
  · rw [h1] at h2
    simp at h2
  · rw [last_eq (s := s) (c := c) (by rw [h1, ← List.cons_append, List.getLast?_concat]), last_eq (s := s') (c := c') (by rw [h2', ← List.cons_append, ← List.append_assoc, List.getLast?_concat])]
    exact h7.op
/-- What closes a block, where at least two are open. -/
theorem closeR_up {s s' : Stk} (hu : Up pr f g s s') (h2 : 2 ≤ s.cs.length) {t : Stk} (ht : closeR (.ok s) = .ok t) : (closedC (.ok s')).op = (closedC (.ok s)).op ∧ (closedC (.ok s')).fin = (closedC (.ok s)).fin ∧ UpR pr f g (closeR (.ok s)) (closeR (.ok s')) := by
  have h3 := ht
  change ofP ((closeS s).1, (closeS s).2.2) = .ok t at h3
  obtain ⟨h0, _⟩ := ofP_ok h3
  obtain ⟨e1, e2, e3, e4⟩ := close_up hu h2 h0
  refine ⟨e2, e3, fun u hu' => ⟨(closeS s').1, ?_, ?_⟩⟩
  · show ofP ((closeS s').1, (closeS s').2.2) = _
    unfold ofP
    rw [if_pos e1]
  · change ofP ((closeS s).1, (closeS s).2.2) = .ok u at hu'
    obtain ⟨_, rfl⟩ := ofP_ok hu'
    exact e4
theorem push_from {l : List Int} {x : Rs} {t : Stk} (h : pushR l x = .ok t) : ∃ u, x = .ok u := by
  obtain ⟨u, hu, _⟩ := bind_ok h
  exact ⟨u, hu⟩
theorem open_from {op : Int} {l : List Int} {x : Rs} {t : Stk} (h : openR op l x = .ok t) : ∃ u, x = .ok u := by
  obtain ⟨u, hu, _⟩ := bind_ok h
  exact ⟨u, hu⟩
theorem UpR.end_ {s s' : Stk} (hu : Up pr f g s s') : UpR pr f g (endR s) (endR s') := fun t ht => by
  have hx := ht
  unfold endR at hx
  obtain ⟨u1, hu1⟩ := push_from hx
  have hu2 := need_same hu1
  by_cases h2 : 2 ≤ s.cs.length
  · have h2' : 2 ≤ s'.cs.length := Nat.le_trans h2 (up_len hu)
    have n1 : needR (decide (2 ≤ s.cs.length)) 5 (.ok s) = .ok s := by simp [needR, Rs.bind, h2]
    have n2 : needR (decide (2 ≤ s'.cs.length)) 5 (.ok s') = .ok s' := by simp [needR, Rs.bind, h2']
    rw [n1] at hu2
    obtain ⟨e1, e2, e3⟩ := closeR_up hu h2 hu2
    unfold endR at ht ⊢
    simp only [n1, n2, e1, e2] at ht ⊢
    exact (e3.need.push) t ht
  · simp only [needR, Rs.bind, h2, decide_false, Bool.false_eq_true, if_false, closeR] at hu2
    cases hu2
theorem UpR.turn {s s' : Stk} (hu : Up pr f g s s') : UpR pr f g (turnR s) (turnR s') := fun t ht => by
  have hx := ht
  unfold turnR at hx
  obtain ⟨u1, hu1⟩ := open_from hx
  obtain ⟨u0, hu0, _⟩ := bind_ok hu1
  have hb := need_true hu0
  rw [Bool.and_eq_true, decide_eq_true_eq, beq_iff_eq] at hb
  have h2 : 2 ≤ s.cs.length := by
    obtain ⟨c0, c0', r, r', h1, h2', _, h4, _, h6⟩ := hu.cs
    cases r with
    | nil =>
      have := hb.2
      rw [last_eq (c := c0) (by rw [h1]; rfl), h4] at this
      exact absurd this (by decide)
    | cons c r => rw [h1]; simp
  have h2' : 2 ≤ s'.cs.length := Nat.le_trans h2 (up_len hu)
  have n1 : needR (decide (0 < s.cs.length) && (lastOp s == 4)) 5 (.ok s) = .ok s := by
    rw [decide_eq_true hb.1, hb.2]; rfl
  have n2 : needR (decide (0 < s'.cs.length) && (lastOp s' == 4)) 5 (.ok s') = .ok s' := by
    rw [decide_eq_true (show 0 < s'.cs.length by omega), up_lastOp hu h2, hb.2]; rfl
  rw [n1] at hu1
  obtain ⟨e1, e2, e3⟩ := closeR_up hu h2 hu1
  unfold turnR at ht ⊢
  simp only [n1, n2, e2] at ht ⊢
  exact e3.open t ht
theorem UpR.choose {s s' : Stk} (hu : Up pr f g s s') : UpR pr f g (chooseR s) (chooseR s') := fun t ht => by
  have h0 : UpR pr f g (.ok s) (.ok s') := fun u e => ⟨s', rfl, by injection e with e; rw [← e]; exact hu⟩
  have hx := ht
  unfold chooseR at hx
  obtain ⟨u1, hu1⟩ := push_from hx
  have hu2 := need_same hu1
  obtain ⟨u2, e2, _⟩ := popR_cs hu2
  have a1 := popB_up (h0.want (l := [127])) e2
  have a2 := popB_up (h0.want (l := [127])).pop hu2
  unfold chooseR at ht ⊢
  simp only [a1, a2] at ht ⊢
  exact ((h0.want.pop.pop).need.push) t ht
end Go.Proofs.YtlappkflnlbfcaaGreatDoor.Chk
end

section
/- A path of a body without branches, where more is dead, or open: plain. -/
namespace Go.Proofs.YtlappkflnlbfcaaGreatDoor.Chk
open Go.RowKit Row9 Stk
set_option maxRecDepth 100000
set_option maxHeartbeats 1000000
set_option linter.unusedVariables false
variable {pr : List Ctl} {f : List Int} {g : Bool}
/-- An Env with other results. -/
def withR (E : EnvP) (l : List Int) : EnvP := { E with results := l }
theorem UpR.take {E : EnvP} {R : List Int} {i : Ins.Ins} {s s' : Stk} (hu : Up pr f g s s') (hb : i.op < 12 ∨ 15 < i.op) : UpR pr f g (takeR E i s) (takeR (withR E R) i s') := by
  have h : UpR pr f g (.ok s) (.ok s') := fun u e => ⟨s', rfl, by injection e with e; rw [← e]; exact hu⟩
  unfold takeR
  refine UpR.ite ?_ (UpR.ite ?_ (UpR.ite ?_ ?_))
  · unfold plainR
    refine UpR.ite h.kill (UpR.ite h.push (UpR.ite (UpR.turn hu) (UpR.ite (UpR.end_ hu) ?_)))
    rw [if_neg (show ¬ i.op = 15 by omega), if_neg (show ¬ i.op = 15 by omega)]
    exact UpR.ite h.pop (UpR.ite (UpR.choose hu) h.want.push)
  · exact (UpR.ite h.want h).open
  · unfold indexR
    rw [if_neg (show ¬ i.op = 12 by omega), if_neg (show ¬ i.op = 12 by omega), if_neg (show ¬ i.op = 13 by omega), if_neg (show ¬ i.op = 13 by omega)]
    refine UpR.ite h.need.want.push (UpR.ite ?_ (UpR.ite h.need.push (UpR.ite h.need.need.want h)))
    unfold localR
    exact UpR.ite (UpR.ite h.need h.need.want) (UpR.ite h.need h.need.want).push
  · by_cases h4 : Ins.kd i.op = 4
    · exfalso
      have : i.op = 14 := by
        unfold Ins.kd at h4
        repeat' (first | (split at h4; omega) | omega)
      omega
    · rw [if_neg h4, if_neg h4]
      refine UpR.ite h.need.need.want.want.push (UpR.ite ?_ (UpR.ite ?_ (UpR.ite h.push h.push)))
      · unfold accessR
        exact UpR.ite h.need.need.want h.need.need.want.push
      · exact (UpR.ite h.need h.need.want).push
theorem instr_up {E : EnvP} {R : List Int} {i : Ins.Ins} {s s' t : Stk} (hu : Up pr f g s s') (hb : i.op < 12 ∨ 15 < i.op) (ht : instrR E i s = .ok t) : ∃ t', instrR (withR E R) i s' = .ok t' ∧ Up pr f g t t' := by
  unfold instrR at ht ⊢
  split at ht
  · cases ht
  · rename_i hs
    rw [if_neg hs]
    exact UpR.take hu hb t ht
/-- A path of a body without branches. -/
theorem go_up {E : EnvP} {R : List Int} : ∀ (l : List Ins.Ins) (s s' : Stk), Up pr f g s s' → (∀ i ∈ l, i.op < 12 ∨ 15 < i.op) → (pathGo E l s).2 = 0 → (pathGo (withR E R) l s').2 = 0 ∧ Up pr f g (lastS (pathGo E l s).1) (lastS (pathGo (withR E R) l s').1)
  | [], s, s', hu, _, _ => ⟨rfl, hu⟩
  | i :: l, s, s', hu, hb, h => by
    unfold pathGo at h ⊢
    cases hx : instrR E i s with
    | er e =>
      rw [hx] at h
      exact absurd h (instr_nz i s e hx)
    | ok t =>
      rw [hx] at h
      obtain ⟨t', e1, e2⟩ := instr_up (R := R) hu (hb i (by simp)) hx
      rw [e1]
      obtain ⟨h1, h2⟩ := go_up l t t' e2 (fun j hj => hb j (by simp [hj])) h
      refine ⟨h1, ?_⟩
      have k : ∀ {F : EnvP} {u v : Stk}, lastS (u :: (pathGo F l v).1) = lastS (pathGo F l v).1 := fun {F u v} => by
        have hne : (pathGo F l v).1 ≠ [] := by
          cases l with
          | nil => simp [pathGo]
          | cons j l => unfold pathGo; cases instrR F j v <;> simp
        unfold lastS
        rw [List.getLast?_cons]
        cases hq : (pathGo F l v).1.getLast? with
        | none => exact absurd (List.getLast?_eq_none_iff.1 hq) hne
        | some z => rfl
      simp only [k]
      exact h2
end Go.Proofs.YtlappkflnlbfcaaGreatDoor.Chk
end

section
/- CheckMore, plain: a step where more of the same is dead; a body behind a body. -/
namespace Go.Proofs.YtlappkflnlbfcaaGreatDoor.Chk
open Go.RowKit Row9 Stk
set_option maxRecDepth 100000
set_option maxHeartbeats 1000000
set_option linter.unusedVariables false
variable {pr : List Ctl} {f : List Int} {g : Bool}
theorem cls_get {l l' : List Ctl} (h : Cls l l') : ∀ k : Nat, (l[k]? = none ∧ l'[k]? = none) ∨ ∃ c c', l[k]? = some c ∧ l'[k]? = some c' ∧ Cl c c' := by
  induction h with
  | nil => exact fun k => .inl ⟨by simp, by simp⟩
  | cons a _ ih =>
    intro k
    rcases k with _ | k
    · exact .inr ⟨_, _, rfl, rfl, a⟩
    · simp only [List.getElem?_cons_succ]
      exact ih k
theorem label_same {s s' : Stk} (h1 : sane s = true) (h2 : sane s' = true) (hc : Cls s.cs s'.cs) (n : Int) : labelS s' n = labelS s n := by
  unfold labelS
  rw [h1, h2, cls_len hc]
  rcases cls_get hc (s.cs.length - 1 - n.toNat) with ⟨e1, e2⟩ | ⟨c, c', e1, e2, e3⟩
  · rw [e1, e2]
  · rw [e1, e2]
    simp only [e3.op, e3.fin]
/-- A stack that is only looked at. -/
def SA (s s' : Stk) (x x' : Rs) : Prop := (x = .ok s ∧ x' = .ok s') ∨ ∃ e, x = .er e
theorem SA.up {s s' : Stk} {x x' : Rs} (hu : Up pr f g s s') (h : SA s s' x x') : UpR pr f g x x' := fun t ht => by
  rcases h with ⟨h1, h2⟩ | ⟨e, h1⟩
  · rw [h1] at ht
    injection ht with ht
    subst ht
    exact ⟨s', h2, hu⟩
  · rw [h1] at ht
    cases ht
theorem SA.label {s s' : Stk} (hl : ∀ n, labelS s' n = labelS s n) {x x' : Rs} (h : SA s s' x x') (n : Int) : SA s s' (labelR n x) (labelR n x') := by
  rcases h with ⟨rfl, rfl⟩ | ⟨e, rfl⟩
  · unfold labelR Rs.bind
    simp only [hl n]
    by_cases h0 : (labelS s n).2 = 0
    · rw [if_pos h0, if_pos h0]
      exact .inl ⟨rfl, rfl⟩
    · rw [if_neg h0]
      exact .inr ⟨_, rfl⟩
  · exact .inr ⟨e, rfl⟩
theorem SA.labelL {s s' : Stk} (hl : ∀ n, labelS s' n = labelS s n) (n : Int) : Chk.labelL n (.ok s') = Chk.labelL n (.ok s) := by
  show (labelS s' n).1 = (labelS s n).1
  rw [hl n]
theorem SA.tab {s s' : Stk} (hl : ∀ n, labelS s' n = labelS s n) (l : List Int) : ∀ (r : List Int) {x x' : Rs}, SA s s' x x' → SA s s' (tabR l r x) (tabR l r x')
  | [], _, _, h => h
  | n :: r, x, x', h => by
    unfold tabR
    refine SA.tab hl l r ?_
    have h2 := h.label hl n
    rcases h with ⟨rfl, rfl⟩ | ⟨e, rfl⟩
    · rw [SA.labelL hl n]
      rcases h2 with ⟨e1, e2⟩ | ⟨e, e1⟩
      · rw [e1, e2]
        unfold needR Rs.bind
        simp only
        by_cases hb : decide (Chk.labelL n (.ok s) = l) = true
        · rw [if_pos hb, if_pos hb]
          exact .inl ⟨rfl, rfl⟩
        · rw [if_neg hb]
          exact .inr ⟨_, rfl⟩
      · rw [e1]
        exact .inr ⟨e, rfl⟩
    · exact .inr ⟨e, rfl⟩
theorem take_12 (E : EnvP) (A B K : Int) (L : List Int) (s : Stk) : takeR E ⟨12, A, B, K, L⟩ s = killR (wantR (Chk.labelL A (.ok s)) (labelR A (.ok s))) := rfl
theorem take_13 (E : EnvP) (A B K : Int) (L : List Int) (s : Stk) : takeR E ⟨13, A, B, K, L⟩ s = pushR (Chk.labelL A (.ok s)) (wantR (Chk.labelL A (.ok s)) (wantR [127] (labelR A (.ok s)))) := rfl
theorem take_14 (E : EnvP) (A B K : Int) (L : List Int) (s : Stk) : takeR E ⟨14, A, B, K, L⟩ s = killR (wantR (Chk.labelL A (.ok s)) (wantR [127] (tabR (Chk.labelL A (.ok s)) L (labelR A (.ok s))))) := rfl
theorem take_15 (E : EnvP) (A B K : Int) (L : List Int) (s : Stk) : takeR E ⟨15, A, B, K, L⟩ s = killR (wantR E.results (.ok s)) := rfl
theorem take_same {E : EnvP} {i : Ins.Ins} {s s' : Stk} (hu : Up pr f g s s') (hc : Cls s.cs s'.cs) : UpR pr f g (takeR E i s) (takeR E i s') := by
  by_cases hb : i.op < 12 ∨ 15 < i.op
  · exact UpR.take (R := E.results) hu hb
  · have hl := label_same hu.s1 hu.s2 hc
    have h0 : SA s s' (.ok s) (.ok s') := .inl ⟨rfl, rfl⟩
    have h : UpR pr f g (.ok s) (.ok s') := h0.up hu
    have hlab : ∀ n, UpR pr f g (labelR n (.ok s)) (labelR n (.ok s')) := fun n => (h0.label hl n).up hu
    obtain ⟨op, A, B, K, L⟩ := i
    simp only at hb
    have h4 : op = 12 ∨ op = 13 ∨ op = 14 ∨ op = 15 := by omega
    rcases h4 with rfl | rfl | rfl | rfl
    · rw [take_12, take_12, SA.labelL hl A]
      exact (hlab A).want.kill
    · rw [take_13, take_13, SA.labelL hl A]
      exact (hlab A).want.want.push
    · rw [take_14, take_14, SA.labelL hl A]
      exact ((SA.tab hl _ L (h0.label hl A)).up hu).want.want.kill
    · rw [take_15, take_15]
      exact h.want.kill
theorem up_cls {s s' : Stk} (hu : Up [] f g s s') (hf : Fst f s) : Cls s.cs s'.cs := by
  obtain ⟨c0, c0', r, r', h1, h2, h3, h4, h5, h6⟩ := hu.cs
  obtain ⟨d, hd⟩ := hf
  rw [h1, List.head?_cons, Option.some.injEq] at hd
  rw [h1, h2, List.nil_append]
  refine .cons ⟨by rw [h4, h5.1], by rw [h5.2.1, hd], h3.ht, h3.dead⟩ h6
theorem go_ne {E : EnvP} (l : List Ins.Ins) (s : Stk) : (pathGo E l s).1 ≠ [] := by
  cases l with
  | nil => simp [pathGo]
  | cons j l => unfold pathGo; cases instrR E j s <;> simp
theorem lastS_cons {u : Stk} {t : List Stk} (h : t ≠ []) : lastS (u :: t) = lastS t := by
  unfold lastS
  rw [List.getLast?_cons]
  cases hq : t.getLast? with
  | none => exact absurd (List.getLast?_eq_none_iff.1 hq) h
  | some z => rfl
/-- A path of any body, where more of the same is dead. -/
theorem go_same {E : EnvP} : ∀ (l : List Ins.Ins) (s s' : Stk), Up [] E.results g s s' → Fst E.results s → (pathGo E l s).2 = 0 → (pathGo E l s').2 = 0 ∧ Up [] E.results g (lastS (pathGo E l s).1) (lastS (pathGo E l s').1)
  | [], s, s', hu, _, _ => ⟨rfl, hu⟩
  | i :: l, s, s', hu, hf, h => by
    unfold pathGo at h ⊢
    cases hx : instrR E i s with
    | er e =>
      rw [hx] at h
      exact absurd h (instr_nz i s e hx)
    | ok t =>
      rw [hx] at h
      have hx2 := hx
      unfold instrR at hx2
      split at hx2
      · cases hx2
      · rename_i hs
        obtain ⟨t', e1, e2⟩ := take_same hu (up_cls hu hf) t hx2
        have e3 : instrR E i s' = .ok t' := by
          unfold instrR
          rw [if_neg hs]
          exact e1
        rw [e3]
        have hft : Fst E.results t := FsR.take (fun v hv => by injection hv with hv; rw [← hv]; exact hf) t hx2
        obtain ⟨h1, h2⟩ := go_same l t t' e2 hft h
        refine ⟨h1, ?_⟩
        simp only [lastS_cons (go_ne l _)]
        exact h2
theorem goP_cons {E : EnvP} {i : Ins.Ins} {l : List Ins.Ins} {s t : Stk} (h : instrR E i s = .ok t) : pathGo E (i :: l) s = (s :: (pathGo E l t).1, (pathGo E l t).2) := by
  conv => lhs; unfold pathGo
  rw [h]
theorem goP_first {E : EnvP} {i : Ins.Ins} {l : List Ins.Ins} {s : Stk} (h : (pathGo E (i :: l) s).2 = 0) : ∃ t, instrR E i s = .ok t ∧ (pathGo E l t).2 = 0 := by
  cases hx : instrR E i s with
  | er e =>
    unfold pathGo at h
    rw [hx] at h
    exact absurd h (instr_nz i s e hx)
  | ok t =>
    rw [goP_cons hx] at h
    exact ⟨t, rfl, h⟩
/-- A path of one body behind another. -/
theorem go_app {E : EnvP} (m : List Ins.Ins) : ∀ (l : List Ins.Ins) (s : Stk), (pathGo E l s).2 = 0 → (pathGo E (l ++ m) s).2 = (pathGo E m (lastS (pathGo E l s).1)).2 ∧ lastS (pathGo E (l ++ m) s).1 = lastS (pathGo E m (lastS (pathGo E l s).1)).1
  | [], s, _ => ⟨rfl, rfl⟩
  | i :: l, s, h => by
    obtain ⟨t, hx, h⟩ := goP_first h
    obtain ⟨h1, h2⟩ := go_app m l t h
    rw [List.cons_append, goP_cons hx, goP_cons hx]
    simp only [lastS_cons (go_ne l _), lastS_cons (go_ne (l ++ m) _)]
    exact ⟨h1, h2⟩
/-- What a body that fits is. -/
theorem body_ok {E : EnvP} {l : List Ins.Ins} (h : bodyR E l = 0) : Bod.Nested (opsP l) ∧ saneE E = true ∧ (pathGo E l (s0 E)).2 = 0 ∧ sane (lastS (pathGo E l (s0 E)).1) = true ∧ (lastS (pathGo E l (s0 E)).1).vals.length ≤ E.results.length ∧ ∃ d, (lastS (pathGo E l (s0 E)).1).cs = [⟨2, E.results, 0, d⟩] ∧ (d = false → (lastS (pathGo E l (s0 E)).1).vals = E.results) := by
  obtain ⟨h0, a, ha, hs, hv, d, hd, hr⟩ := leaves h
  obtain ⟨h1, h2, h3, h4⟩ := path_ok h0
  have hla : lastS (pathR E l).1 = a := by
    unfold lastS
    rw [List.getLast?_eq_getElem?, h4, Nat.add_sub_cancel, ha]
    rfl
  rw [h3] at hla h0
  rw [hla]
  exact ⟨h1, h2, h0, hs, hv, d, hd, hr⟩
/-- What fits: a path to its end, and an end that may be closed. -/
theorem body_of {E : EnvP} {l : List Ins.Ins} (h1 : Bod.Nested (opsP l)) (h2 : saneE E = true) (h3 : (pathGo E l (s0 E)).2 = 0) (h4 : (closeS (lastS (pathGo E l (s0 E)).1)).2.2 = 0) : bodyR E l = 0 := by
  unfold bodyR
  rw [path_of h1 h2, if_pos h3, if_pos h4]
theorem opsP_app (l m : List Ins.Ins) : opsP (l ++ m) = opsP l ++ opsP m := by simp [opsP]
theorem close_nil {s : Stk} {d : Bool} (hs : sane s = true) (hv : s.vals = []) (hc : s.cs = [⟨2, [], 0, d⟩]) : (closeS s).2.2 = 0 := by
  unfold closeS
  rw [if_neg (by rw [hs]; simp), hc, hv]
  rfl
/-- CheckMore's first: one behind the other. -/
theorem more_all {E : EnvP} (hE : E.results = []) {l m : List Ins.Ins} (hl : bodyR E l = 0) (hm : bodyR E m = 0) : bodyR E (l ++ m) = 0 := by
  obtain ⟨n1, q1, p1, s1, v1, d1, c1, _⟩ := body_ok hl
  obtain ⟨n2, q2, p2, s2, v2, d2, c2, _⟩ := body_ok hm
  have hz : ∀ {v : List Int}, v.length ≤ E.results.length → v = [] := fun {v} h => List.eq_nil_of_length_eq_zero (by rw [hE] at h; simpa using h)
  obtain ⟨a1, a2⟩ := go_app m l (s0 E) p1
  have hu : Up [] E.results false (s0 E) (lastS (pathGo E l (s0 E)).1) := by
    refine ⟨(hz v1).trans rfl, ⟨⟨2, E.results, 0, false⟩, ⟨2, E.results, 0, d1⟩, [], [], rfl, by rw [c1]; rfl, ⟨rfl, fun e => by cases e⟩, rfl, ⟨rfl, rfl, fun e => by cases e⟩, .nil⟩, s0_sane q1, s1⟩
  obtain ⟨b1, b2⟩ := go_same m (s0 E) _ hu ⟨false, rfl⟩ p2
  refine body_of (by rw [opsP_app]; exact (Bod.nested_app n1 n2).1) q1 (by rw [a1]; exact b1) ?_
  rw [a2]
  obtain ⟨c0, c0', r, r', g1, g2, g3, g4, g5, g6⟩ := b2.cs
  rw [c2] at g1
  injection g1 with g1 g0
  subst g0
  cases g6
  rw [List.nil_append] at g2
  obtain ⟨o', fi', ht', de'⟩ := c0'
  obtain ⟨e1, e2, _⟩ := g5
  have e3 := g3.ht
  simp only at e1 e2 e3
  subst e1 e2
  rw [← g1] at e3
  simp only at e3
  subst e3
  rw [hE] at g2
  exact close_nil b2.s2 (b2.vals.trans (hz v2)) g2
end Go.Proofs.YtlappkflnlbfcaaGreatDoor.Chk
end
