/- ModPRead, ModWLPair. -/
import Derived.Test.YtffegkjlgeblbaaGreatDoorPkModPW
import Derived.Test.YtffegkjlgeblbaaGreatDoorPkModPF
import Derived.Test.YtffegkjlgeblbaaGreatDoorPkSecPC
import Derived.Test.YtffegkjlgeblbaaGreatDoorPkSecPH
import Derived.Test.YtffegkjlgeblbaaGreatDoorPkModLd
import Derived.Deep.Cut
import Derived.Laws.Tables
import Derived.Test.YtffegkjlgeblbaaGreatDoorPkModWLI
section
/- The program's read: a module out of its sections; and Decode: walked, given its sections' readers. -/
namespace Go.Proofs.YtffegkjlgeblbaaGreatDoor.Mdl
open Go.RowKit Ints Typ Ins
set_option maxRecDepth 100000
set_option maxHeartbeats 4000000
set_option linter.unusedVariables false
def plainM (m : ModT) : PMod := ⟨m.types.map fun p => (p.1.1, p.2.1), m.imps, m.funcs, m.tabs, m.mems, m.globs.map fun p => (p.1, p.2.1, p.2.2.1), m.exps, m.start, m.elems.map fun p => (p.1.1, p.2.1), m.codes.map fun p => (p.1.1, Bod.insL p.2.1), m.datas.map fun p => (p.1.1, p.2.1)⟩
noncomputable def psecM (id : Int) (l : List Int) (m : PMod) : PMod × Nat × Int :=
  if id = 1 then ({m with types := (manyM 64 rtypM l 0 0).1}, (manyM 64 rtypM l 0 0).2)
  else if id = 2 then ({m with imps := (manyM 64 rimpM l 0 0).1}, (manyM 64 rimpM l 0 0).2)
  else if id = 3 then ({m with funcs := (rnumsM 128 l 0 0).1}, (rnumsM 128 l 0 0).2)
  else if id = 4 then ({m with tabs := (manyM 32 rtabM l 0 0).1}, (manyM 32 rtabM l 0 0).2)
  else if id = 5 then ({m with mems := (manyM 32 rlimM l 0 0).1}, (manyM 32 rlimM l 0 0).2)
  else if id = 6 then ({m with globs := (manyM 64 rglbM l 0 0).1}, (manyM 64 rglbM l 0 0).2)
  else if id = 7 then ({m with exps := (manyM 64 rexpM l 0 0).1}, (manyM 64 rexpM l 0 0).2)
  else if id = 8 then ({m with start := (ru l 0 0).1}, (ru l 0 0).2)
  else if id = 9 then ({m with elems := (manyM 32 relmM l 0 0).1}, (manyM 32 relmM l 0 0).2)
  else if id = 10 then ({m with codes := (manyM 128 rfuncM l 0 0).1}, (manyM 128 rfuncM l 0 0).2)
  else ({m with datas := (manyM 32 rdatM l 0 0).1}, (manyM 32 rdatM l 0 0).2)
noncomputable def pone (s : Sec.Sct) (m : PMod) : PMod × Int := ((psecM s.1 s.2 m).1, if (psecM s.1 s.2 m).2.2 ≠ 0 then (psecM s.1 s.2 m).2.2 else rleftM s.2 (psecM s.1 s.2 m).2.1 0)
noncomputable def pdecsM : List Sec.Sct → PMod → PMod × Int
  | [], m => (m, 0)
  | s :: r, m => if s.1 = 0 then pdecsM r m else if (pone s m).2 ≠ 0 then (noMod 0, (pone s m).2) else pdecsM r (pone s m).1
noncomputable def pdecM (b : List Int) : PMod × Int := if (Sec.split7 b).2 ≠ 0 then (noMod 0, (Sec.split7 b).2) else decEnd (pdecsM (Sec.split7 b).1 (noMod (-1)))
def SecOK (id : Int) (l : List Int) : Prop := ∀ {w0 wr w : World} {v : Value} {g gm B : Nat} {cs : Array Value} {m : ModT}, PRd w0 v l g w 0 → w.heap[gm]? = some (.cells cs 34 (0, 0)) → HiP B wr (fun W => ModAt W (.agg cs) m) → Below wr.heap.size wr w → wr.heap.size ≤ g → B ≤ wr.heap.size → gm < B →
  Calls Tryz.prog 71 #[.pointer (some ⟨g, 0, none⟩), .pointer (some ⟨gm, 0, none⟩), .int .i64 id] w fun en w' =>
    (((psecM id l (plainM m)).2.2 = 0 ∧ en = .returned (.tuple #[]) ∧ (∃ cs' m', w'.heap[gm]? = some (.cells cs' 34 (0, 0)) ∧ HiP B w' (fun W => ModAt W (.agg cs') m') ∧ plainM m' = (psecM id l (plainM m)).1) ∧ PAt w' g v (((psecM id l (plainM m)).2.1 : Nat) : Int) ∧ (psecM id l (plainM m)).2.1 ≤ l.length)
      ∨ ((psecM id l (plainM m)).2.2 ≠ 0 ∧ en = .panicked (flt (psecM id l (plainM m)).2.2))) ∧ But2 g gm w w'
theorem AgP.of_but2 {B g gm : Nat} {wr w w' : World} (hb : Below wr.heap.size wr w) (b : But2 g gm w w') (hg : wr.heap.size ≤ g) (hm : gm < B) : AgP B wr w' :=
  ⟨Nat.le_trans hb.size b.size, fun k hk hlt => (b.block k (Nat.lt_of_lt_of_le hlt hb.size) (by omega) (by omega)).trans (hb.block k hlt)⟩
theorem loop_at {α : Type} {M : List Int → Nat → Int → α × Nat × Int} {l : List Int} (hM : ∀ a, a ≤ l.length → (M l a 0).2.2 = 0 → (M l a 0).2.1 ≤ l.length) : ∀ (n a : Nat) (out : List α), a ≤ l.length → (loopM (M l) n a 0 out).2.2 = 0 → (loopM (M l) n a 0 out).2.1 ≤ l.length
  | 0, a, out, ha, _ => ha
  | n + 1, a, out, ha, h => by
    rw [loopM_ok] at h ⊢
    by_cases he : (M l a 0).2.2 = 0
    · rw [he] at h ⊢
      exact loop_at hM n _ _ (hM a ha he) h
    · rw [loopM_err _ _ _ _ _ he] at h
      exact absurd h he
theorem many_at {α : Type} {M : List Int → Nat → Int → α × Nat × Int} {l : List Int} {m : Int} (hM : ∀ a, a ≤ l.length → (M l a 0).2.2 = 0 → (M l a 0).2.1 ≤ l.length) (h : (manyM m M l 0 0).2.2 = 0) : (manyM m M l 0 0).2.1 ≤ l.length := by
  unfold manyM at h ⊢
  by_cases he : (rmanyM m l 0 0).2.2 = 0
  · rw [he] at h ⊢
    exact loop_at hM _ _ _ (ru_le (Nat.zero_le _)) h
  · rw [loopM_err _ _ _ _ _ he] at h
    exact absurd h he
theorem wpList_ld {P : Program} {ops : Array Oper} {Q : Exit → Act → World → Prop} {o : Oper} {rest : List Oper} {a : Act} {w : World} (hgd : o.guard = none) (t : TypeId) (x : Operand) (v : Value) (ho : o.op = .load t x)
    (hr : (Instr.loadAt t (a.eval x)).run P w = .ok v w) (h : wpList P ops Q rest (a.put o.dst v) w) : wpList P ops Q (o :: rest) a w := by
  refine wpList_plain hgd fun K hK => ?_
  unfold Oper.wp
  simp only [execOp, ho, Sem.run_bind, hr, Result.andThen_ok]
  exact hK _ _ h
theorem wpList_st {P : Program} {ops : Array Oper} {Q : Exit → Act → World → Prop} {o : Oper} {rest : List Oper} {a : Act} {w w' : World} (hgd : o.guard = none) (t : TypeId) (x y : Operand) (ho : o.op = .store t x y)
    (hr : (Instr.storeAt t (a.eval x) (a.eval y)).run P w = .ok () w') (h : wpList P ops Q rest (a.put o.dst undef) w') : wpList P ops Q (o :: rest) a w := by
  refine wpList_plain hgd fun K hK => ?_
  unfold Oper.wp
  simp only [execOp, ho, Sem.run_bind, hr, Result.andThen_ok]
  exact hK _ _ h
theorem run_stM {W : World} {b : Nat} {cur : Array Value} {c0 c1 c2 c3 c4 c5 c6 c7 c8 c9 c10 : Value} (h : W.heap[b]? = some (.cells cur 34 (0, 0))) (hs : cur.size = 11) (h1 : ∀ v ∈ [c0, c1, c2, c3, c4, c5, c6, c7, c8, c9, c10], v.oneCell' = true) :
    (Instr.storeAt 34 (.pointer (some ⟨b, 0, none⟩)) (.agg #[c0, c1, c2, c3, c4, c5, c6, c7, c8, c9, c10])).run Tryz.prog W = .ok () (W.setRow b #[c0, c1, c2, c3, c4, c5, c6, c7, c8, c9, c10]) := by
  have h2 := run_storeCells_from (P := Tryz.prog) b 34 [c0, c1, c2, c3, c4, c5, c6, c7, c8, c9, c10] 0 cur W h (by simp [hs]) h1
  simp only [List.take_zero, List.nil_append] at h2
  have hc := c_mod
  unfold Instr.storeAt
  simp [go_sem] at h2 ⊢
  exact h2
theorem agp_row {B : Nat} (w : World) {b : Nat} (hb : b < B) (cs : Array Value) : AgP B w (w.setRow b cs) :=
  ⟨by simp [World.setRow], fun i hi _ => by simp only [World.setRow, Array.getElem?_modify]; rw [if_neg (by omega)]⟩
theorem below_row {B : Nat} (w : World) {b : Nat} (hb : B ≤ b) (cs : Array Value) : Below B w (w.setRow b cs) :=
  ⟨rfl, rfl, rfl, by simp [World.setRow], fun i hi => by simp only [World.setRow, Array.getElem?_modify]; rw [if_neg (by omega)]⟩
theorem agp_set {B : Nat} {a w : World} (h : AgP B a w) {b : Nat} (hb : b < B) (k : Nat) (u : Value) : AgP B a (w.setCell ⟨b, k, none⟩ u) :=
  h.trans ⟨by simp [World.setCell], fun i hi _ => Below.heap_setCell _ _ _ _ (by simp only; omega)⟩
theorem below_but2 {g gm : Nat} {w1 W w3 : World} (h : Below gm w1 W) (b : But2 g gm W w3) (hg : gm < g) (hl : gm ≤ W.heap.size) : Below gm w1 w3 :=
  ⟨b.os.trans h.os, b.tape.trans h.tape, b.output.trans h.output, Nat.le_trans h.size b.size, fun k hk => (b.block k (by omega) (by omega) (by omega)).trans (h.block k hk)⟩
theorem secok_5 (l : List Int) : SecOK 5 l := by
  intro w0 wr w v g gm B cs m h hm hH hb hg hB hgm
  have hm0 := hH.now
  obtain ⟨vt, vi, vf, va, vm, vg, vx, ve, vc, vd, e, _⟩ := id hm0
  obtain rfl := (Value.agg.inj e)
  have hl := plist_Limits (fun p => p) rlimM 32 125 h (by decide) (by decide) (fun args W => Stab.run_enter Tryz.func125 (by kernel_rfl) rfl args W) (fun a ha he => rlim_at ha he) (fun W a hp => plim_m hp)
  refine (psec_5 h hm rfl (by omega) hl).mono fun en w' k => ?_
  obtain ⟨k1, k2⟩ := k
  refine ⟨?_, k2⟩
  have hq : psecM 5 l (plainM m) = ({plainM m with mems := (manyM 32 rlimM l 0 0).1}, (manyM 32 rlimM l 0 0).2) := by
    unfold psecM
    rw [if_neg (by decide), if_neg (by decide), if_neg (by decide), if_neg (by decide), if_pos rfl]
  rw [hq]
  rcases k1 with ⟨e1, ⟨u, e2, e3, L, e4, e5⟩, e6⟩ | ⟨e1, e2⟩
  · refine .inl ⟨e1, e2, ⟨_, {m with mems := L}, e3, ?_, by subst e5; rfl⟩, e6, ?_⟩
    · intro W a
      have o1 := hH W ((AgP.of_but2 hb k2 hg hgm).trans a)
      obtain ⟨vt', vi', vf', va', vm', vg', vx', ve', vc', vd', e', r1, r2, r3, r4, r5, r6, r7, r8, r9, r10, r11⟩ := o1
      injection e' with e'
      injection e' with e'
      simp only [List.cons.injEq, and_true] at e'
      obtain ⟨rfl, rfl, rfl, rfl, rfl, rfl, rfl, _, rfl, rfl, rfl⟩ := e'
      exact ⟨vt, vi, vf, va, u, vg, vx, ve, vc, vd, rfl, r1, r2, r3, r4, (e4.low (Nat.le_trans hB hb.size)) W a, r6, r7, r8, r9, r10, r11⟩
    · exact many_at (fun a ha he => rlim_at ha he) e1
  · exact .inr ⟨e1, e2⟩
def REnds (q : PMod × Int) (w : World) (en : Ending) (w' : World) : Prop :=
  (q.2 = 0 ∧ (∃ u m, en = .returned u ∧ HiP w.heap.size w' (fun W => ModAt W u m) ∧ plainM m = q.1) ∨ q.2 ≠ 0 ∧ en = .panicked (flt q.2)) ∧ Below w.heap.size w w'
theorem noMod_at (w : World) : ModAt w (.agg #[.slice none 0 0, .slice none 0 0, .slice none 0 0, .slice none 0 0, .slice none 0 0, .slice none 0 0, .slice none 0 0, .int .i64 (-1), .slice none 0 0, .slice none 0 0, .slice none 0 0]) ⟨[], [], [], [], [], [], [], -1, [], [], []⟩ :=
  ⟨_, _, _, _, _, _, _, _, _, _, rfl, RowG.Row.nil _ _, RowG.Row.nil _ _, ⟨none, 0, rfl, Nat.le_refl _, by omega, fun h => absurd rfl h⟩, RowG.Row.nil _ _, RowG.Row.nil _ _, RowG.Row.nil _ _, RowG.Row.nil _ _, by unfold w64; decide, RowG.Row.nil _ _, RowG.Row.nil _ _, RowG.Row.nil _ _⟩
theorem pdecs_skip {s : Sec.Sct} {r : List Sec.Sct} {m : PMod} (h : s.1 = 0) : pdecsM (s :: r) m = pdecsM r m := by rw [pdecsM, if_pos h]
theorem pdecs_err {s : Sec.Sct} {r : List Sec.Sct} {m : PMod} (h : s.1 ≠ 0) (he : (pone s m).2 ≠ 0) : pdecsM (s :: r) m = (noMod 0, (pone s m).2) := by rw [pdecsM, if_neg h, if_pos he]
theorem pdecs_ok {s : Sec.Sct} {r : List Sec.Sct} {m : PMod} (h : s.1 ≠ 0) (he : (pone s m).2 = 0) : pdecsM (s :: r) m = pdecsM r (pone s m).1 := by rw [pdecsM, if_neg h, if_neg (by rw [he]; decide)]
theorem new_rd (w : World) (v : Value) : PAt (w.alloc (.cells #[v, .int .i64 0] 129)) w.heap.size v 0 :=
  ⟨by simp, (Sec.cells_at (Sec.heap_new w _) 0).1, (Sec.cells_at (Sec.heap_new w _) 1).1, (Sec.cells_at (Sec.heap_new w _) 0).2, (Sec.cells_at (Sec.heap_new w _) 1).2⟩
theorem pread_of {v : Value} {b : List Int} {w : World} (hs : Utf.Sl w v b) (hb : ∀ x ∈ b, 0 ≤ x ∧ x < 256) (hD : ∀ s ∈ (Sec.split7 b).1, s.2.length ≤ 1000000) (hn : (Sec.split7 b).1.length ≤ 1000000)
    (hsec : ∀ s ∈ (Sec.split7 b).1, s.1 ≠ 0 → SecOK s.1 s.2) :
    Calls Tryz.prog 33 #[v] w (REnds (pdecM b) w) := by
  have HSP := Lib.hid fun W (h : Below w.heap.size w W) => Sec.psplit_any (hs.keep h) hb
  obtain ⟨A, c, rfl, _⟩ := id hs
  have HD := Lib.hid hD
  have HSEC := Lib.hid hsec
  have HNL := Lib.hid hn
  unfold pdecM
  clear hs hb hD hsec hn
  generalize Sec.split7 b = R at *
  obtain ⟨LS, E⟩ := R
  simp only at HD HSEC HNL HSP ⊢
  obtain ⟨Q, hQ⟩ : ∃ Q, (if E ≠ 0 then (noMod 0, E) else decEnd (pdecsM LS (noMod (-1)))) = Q := ⟨_, rfl⟩
  rw [hQ]
  have HA0 := Lib.hid ((Below.refl w.heap.size w).alloc (Nat.le_refl _) (.cells #[.slice none 0 0, .slice none 0 0, .slice none 0 0, .slice none 0 0, .slice none 0 0, .slice none 0 0, .slice none 0 0, .int .i64 0, .slice none 0 0, .slice none 0 0, .slice none 0 0] 34))
  by_cases hE : E = 0
  case neg =>
    rw [if_pos hE] at hQ
    have HQ := Lib.hid hQ
    have HE := Lib.hid hE
    clear hQ hE
    go_enter Tryz.func33, Tryz.ntmps33
    go_wp2_with fail
    refine (HSP.out _ HA0.out).mono ?_
    rintro en w1 ⟨u, l, rfl, hr, hl, hb1⟩
    have HB1 := Lib.hid (HA0.out.trans (hb1.mono HA0.out.size))
    clear hr hl hb1
    go_wp2_with fail
    refine (must_no E HE.out _).mono ?_
    rintro en w2 ⟨rfl, rfl⟩
    exact bodyPost_pan rfl ⟨.inr ⟨by rw [← HQ.out]; exact HE.out, by rw [← HQ.out]⟩, HB1.out⟩
  subst hE
  rw [if_neg (by decide)] at hQ
  have HQ := Lib.hid hQ
  clear hQ
  go_enter Tryz.func33, Tryz.ntmps33
  go_wp2_with fail
  refine (HSP.out _ HA0.out).mono ?_
  rintro en w1 ⟨u, l, rfl, hr, hl, hb1⟩
  simp only at hl
  have HR := Lib.hid hr
  have HL := Lib.hid hl
  have HB1 := Lib.hid (HA0.out.trans (hb1.mono HA0.out.size))
  have HRES : Hid (w1.frozen? ⟨w.heap.size, 0, none⟩ = false ∧ w.heap.size < w1.heap.size) := Lib.hid ⟨by rw [hb1.frozen (p := ⟨w.heap.size, 0, none⟩) (by simp)]; exact (Sec.cells_at (Sec.heap_new w _) 0).2, by have := hb1.size; simp at this; omega⟩
  have HRB : Hid (w1.heap[w.heap.size]? = some (.cells #[.slice none 0 0, .slice none 0 0, .slice none 0 0, .slice none 0 0, .slice none 0 0, .slice none 0 0, .slice none 0 0, .int .i64 0, .slice none 0 0, .slice none 0 0, .slice none 0 0] 34 (0, 0))) := Lib.hid (by rw [hb1.block w.heap.size (by simp)]; exact Sec.heap_new w _)
  obtain ⟨⟨P, cl, hv, hlc, _⟩, _⟩ := id hr
  subst hv
  obtain ⟨n, hn⟩ : ∃ n, l.length = n := ⟨_, rfl⟩
  have HN := Lib.hid hn
  have hn9 : n ≤ 1000000 := by
    have := HNL.out
    rw [← hl, Sec.scL_len, hn] at this
    exact this
  rw [hn] at HR ⊢
  clear hr hl hb1 hn hlc
  go_wp2_with fail
  refine (must_ok _).mono ?_
  rintro en w2 ⟨rfl, hw2⟩
  obtain rfl : w1 = w2 := hw2.symm
  go_wp2_with fail
  obtain ⟨gm, hgm⟩ : ∃ k, w1.heap.size = k := ⟨_, rfl⟩
  have HGM := Lib.hid hgm
  have HGW : Hid (w.heap.size < gm) := Lib.hid (by rw [← hgm]; exact HRES.out.2)
  have HW0 : Hid (Below gm w1 (w1.alloc (.cells #[.slice none 0 0, .slice none 0 0, .slice none 0 0, .slice none 0 0, .slice none 0 0, .slice none 0 0, .slice none 0 0, .int .i64 (-1), .slice none 0 0, .slice none 0 0, .slice none 0 0] 34))) := Lib.hid ((Below.refl _ _).alloc (by omega) _)
  have HC0 : Hid ((w1.alloc (.cells #[.slice none 0 0, .slice none 0 0, .slice none 0 0, .slice none 0 0, .slice none 0 0, .slice none 0 0, .slice none 0 0, .int .i64 (-1), .slice none 0 0, .slice none 0 0, .slice none 0 0] 34)).heap[gm]? = some (.cells #[.slice none 0 0, .slice none 0 0, .slice none 0 0, .slice none 0 0, .slice none 0 0, .slice none 0 0, .slice none 0 0, .int .i64 (-1), .slice none 0 0, .slice none 0 0, .slice none 0 0] 34 (0, 0))) := Lib.hid (by rw [← hgm]; exact Sec.heap_new w1 _)
  rw [hgm]
  clear hgm
  go_loopw [19] (fun i' wr => ∃ (i : Nat) (cs : Array Value) (m : ModT), i' = .int .i64 (i : Int) ∧ i ≤ n ∧ wr.heap[gm]? = some (.cells cs 34 (0, 0)) ∧ HiP (gm + 1) wr (fun W => ModAt W (.agg cs) m) ∧ Below gm w1 wr ∧ pdecsM LS (noMod (-1)) = pdecsM (LS.drop i) (plainM m)) (fun i' _ => n - (intOf i').toNat)
  case atStart => exact ⟨0, _, _, by go_num, by omega, HC0.out, fun W _ => noMod_at W, HW0.out, rfl⟩
  case round =>
    obtain ⟨i, cs, m, rfl, hi, hc, hh, hW, hq⟩ := hrel
    have HC := Lib.hid hc
    have HH := Lib.hid hh
    have HW := Lib.hid hW
    have HPQ := Lib.hid hq
    clear hc hh hW hq HW0 HC0
    by_cases hlt : i < n
    · obtain ⟨y, hy⟩ : ∃ y, l[i]? = some y := ⟨_, List.getElem?_eq_getElem (by rw [HN.out]; exact hlt)⟩
      have hyS : LS[i]? = some y.1 := by rw [← HL.out]; exact Sec.scL_get hy
      have HYM : Hid (y.1 ∈ LS) := Lib.hid (List.mem_of_getElem? hyS)
      have HDR : Hid (LS.drop i = y.1 :: LS.drop (i + 1)) := Lib.hid (by
        obtain ⟨h1, h2⟩ := List.getElem?_eq_some_iff.1 hyS
        rw [List.drop_eq_getElem_cons h1, h2])
      obtain ⟨g, off, rfl, hC0, hO0⟩ := HR.out.at_ hy
      have hGL := Sec.sc_lt hC0
      rw [HGM.out] at hGL
      have HOK := Lib.hid hO0
      have q1 := hC0.1
      have q2 := hC0.2
      rw [← HW.out.cell (p := ⟨g, off + i * 2, none⟩) hGL] at q1
      rw [← HW.out.cell (p := ⟨g, off + i * 2 + 1, none⟩) hGL] at q2
      obtain ⟨P2, c2, hv2, _⟩ := id hO0.1
      obtain ⟨⟨x, D⟩, ov⟩ := y
      simp only at q1 q2 hv2 HYM HDR HOK
      obtain ⟨k, hk⟩ : ∃ k, D.length = k := ⟨_, rfl⟩
      have HK := Lib.hid hk
      rw [hk] at hv2
      subst hv2
      have i1 : (0 : Int) ≤ (i : Int) := by omega
      have i2 : (i : Int) < (n : Int) := by omega
      have hw1 : IntKind.i64.wrap ((i : Int) + 1) = (i : Int) + 1 := IntWalk.i64_in _ (by omega)
      have HSZ : Hid (gm < wr.heap.size) := Lib.hid (Array.getElem?_eq_some_iff.1 HC.out).1
      clear hy hyS hC0 hO0 hGL hk
      by_cases hx : x = 0
      · have t1 : (x == 0) = true := by simpa using hx
        have HQ2 : Hid (pdecsM LS (noMod (-1)) = pdecsM (LS.drop (i + 1)) (plainM m)) := Lib.hid (by rw [HPQ.out, HDR.out, pdecs_skip hx])
        clear hx
        go_wp2_with fail
        go_roundw
        case rel => exact ⟨i + 1, cs, m, by go_num, hlt, by rw [Below.heap_alloc _ _ _ HSZ.out]; exact HC.out, HH.out.step ⟨by simp, fun k _ hk => Below.heap_alloc _ _ _ hk⟩, HW.out.alloc (Nat.le_of_lt HSZ.out) _, HQ2.out⟩
        case measure => simp [intOf]; omega
      · have t1 : (x == 0) = false := by simpa using hx
        have HX := Lib.hid hx
        clear hx
        obtain ⟨W2, hW2⟩ : ∃ W, (wr.alloc (.cells #[.int .i64 x, .slice P2 k c2] 54)) = W := ⟨_, rfl⟩
        have HBW : Hid (Below wr.heap.size wr W2 ∧ W2.heap.size = wr.heap.size + 1) := Lib.hid ⟨by rw [← hW2]; exact (Below.refl _ _).alloc (Nat.le_refl _) _, by rw [← hW2]; exact Sec.size_new1 _ _⟩
        have HW2 := Lib.hid hW2
        have HPR : Hid (PRd w1 (.slice P2 k c2) D (wr.heap.size + 1) (W2.alloc (.cells #[.slice P2 k c2, .int .i64 0] 129)) 0) := Lib.hid (by
          have h1 := new_rd W2 (.slice P2 k c2)
          rw [HBW.out.2] at h1
          refine ⟨HOK.out.1, HOK.out.2, HD.out _ HYM.out, Nat.zero_le _, by rw [HGM.out]; have := HSZ.out; omega, ?_, h1⟩
          rw [HGM.out]
          exact (HW.out.trans (HBW.out.1.mono (Nat.le_of_lt HSZ.out))).alloc (by have := HSZ.out; have := HBW.out.2; omega) _)
        have HBG : Hid (Below wr.heap.size wr (W2.alloc (.cells #[.slice P2 k c2, .int .i64 0] 129))) := Lib.hid (HBW.out.1.alloc (by have := HBW.out.2; omega) _)
        have HS := Lib.hid (HSEC.out _ HYM.out HX.out (w0 := w1) (wr := wr) (B := gm + 1) (m := m) HPR.out (by rw [HBG.out.block gm HSZ.out]; exact HC.out) HH.out HBG.out (Nat.le_succ _) HSZ.out (Nat.lt_succ_self _))
        clear hW2
        have HGG : Hid (gm < wr.heap.size + 1) := Lib.hid (by have := HSZ.out; omega)
        have HBO : Hid (Below gm w1 (W2.alloc (.cells #[.slice P2 k c2, .int .i64 0] 129))) := Lib.hid (HW.out.trans (HBG.out.mono (Nat.le_of_lt HSZ.out)))
        have HLW : Hid (gm ≤ (W2.alloc (.cells #[.slice P2 k c2, .int .i64 0] 129)).heap.size) := Lib.hid (by have := HBG.out.size; have := HSZ.out; omega)
        have HS2 := HS.out
        rw [← HW2.out] at HS2 HBO HLW
        have HS3 := Lib.hid HS2
        clear HS2
        go_wp2_with fail
        refine HS3.out.mono ?_
        rintro en w3 ⟨h | h, hb⟩
        · obtain ⟨he, rfl, ⟨cs', m', hc', hh', hp'⟩, hr', hle'⟩ := h
          have HE := Lib.hid he
          have HC' := Lib.hid hc'
          have HH' := Lib.hid hh'
          have HP' := Lib.hid hp'
          have HBO3 := Lib.hid (below_but2 HBO.out hb HGG.out HLW.out)
          have HP3 : Hid (PRd w1 (.slice P2 k c2) D (wr.heap.size + 1) w3 (psecM x D (plainM m)).2.1) := Lib.hid ⟨HOK.out.1, HOK.out.2, HD.out _ HYM.out, hle', by rw [HGM.out]; exact Nat.le_of_lt HGG.out, by rw [HGM.out]; exact HBO3.out, hr'⟩
          have HGL3 : Hid (gm < w3.heap.size) := Lib.hid (Array.getElem?_eq_some_iff.1 hc').1
          have HPO : Hid (pone (x, D) (plainM m) = (plainM m', rleftM D (psecM x D (plainM m)).2.1 0)) := Lib.hid (by unfold pone; simp only; rw [if_neg (by rw [he]; decide), hp'])
          clear he hc' hh' hp' hr' hle' hb
          go_wp2_with fail
          refine (pend_m HP3.out).mono ?_
          rintro en w4 ⟨h2 | h2, hb4⟩
          · obtain ⟨he4, rfl⟩ := h2
            have HQ4 : Hid (pdecsM LS (noMod (-1)) = pdecsM (LS.drop (i + 1)) (plainM m')) := Lib.hid (by rw [HPQ.out, HDR.out, pdecs_ok HX.out (by rw [HPO.out]; exact he4), HPO.out])
            have HB4 := Lib.hid hb4
            clear he4 hb4
            go_wp2_with fail
            go_roundw
            case rel => exact ⟨i + 1, cs', m', by go_num, hlt, by rw [HB4.out.block gm HGL3.out]; exact HC'.out, HH'.out.step ⟨HB4.out.size, fun k _ hk => HB4.out.block k hk⟩, HBO3.out.trans (HB4.out.mono (Nat.le_of_lt HGL3.out)), HQ4.out⟩
            case measure => simp [intOf]; omega
          · obtain ⟨he4, rfl⟩ := h2
            have HQ4 : Hid (Q = (noMod 0, rleftM D (psecM x D (plainM m)).2.1 0)) := Lib.hid (by rw [← HQ.out, HPQ.out, HDR.out, pdecs_err HX.out (by rw [HPO.out]; exact he4), HPO.out]; unfold decEnd; rw [if_pos he4])
            exact bodyPost_pan (P := Tryz.prog) (fn := Tryz.f33) rfl ⟨.inr ⟨by rw [HQ4.out]; exact he4, by rw [HQ4.out]⟩, HB1.out.trans ((HBO3.out.mono (Nat.le_of_lt HGW.out)).trans (hb4.mono (Nat.le_of_lt (Nat.lt_trans HGW.out HGL3.out))))⟩
        · obtain ⟨he, rfl⟩ := h
          have HPO : Hid (pone (x, D) (plainM m) = ((psecM x D (plainM m)).1, (psecM x D (plainM m)).2.2)) := Lib.hid (by unfold pone; simp only; rw [if_pos he])
          have HQ4 : Hid (Q = (noMod 0, (psecM x D (plainM m)).2.2)) := Lib.hid (by rw [← HQ.out, HPQ.out, HDR.out, pdecs_err HX.out (by rw [HPO.out]; exact he), HPO.out]; unfold decEnd; rw [if_pos he])
          exact bodyPost_pan (P := Tryz.prog) (fn := Tryz.f33) rfl ⟨.inr ⟨by rw [HQ4.out]; exact he, by rw [HQ4.out]⟩, HB1.out.trans ((below_but2 HBO.out hb HGG.out HLW.out).mono (Nat.le_of_lt HGW.out))⟩
    · have hin : i = n := by omega
      subst hin
      have HPQ2 : Hid (pdecsM LS (noMod (-1)) = (plainM m, 0)) := Lib.hid (by rw [HPQ.out, List.drop_of_length_le (by rw [← HL.out, Sec.scL_len, HN.out]; exact Nat.le_refl _)]; rfl)
      obtain ⟨vt, vi, vf, va, vm, vg, vx, ve, vc, vd, e, r1, r2, r3, r4, r5, r6, r7, r8, r9, r10, r11⟩ := HH.out.now
      obtain rfl := Value.agg.inj e
      obtain ⟨Pt, cst, rfl⟩ := row_len r1
      obtain ⟨Pi, csi, rfl⟩ := row_len r2
      obtain ⟨Pf, csf, rfl, _⟩ := id r3
      obtain ⟨Pa, csa, rfl⟩ := row_len r4
      obtain ⟨Pm, csm, rfl⟩ := row_len r5
      obtain ⟨Pg, csg, rfl⟩ := row_len r6
      obtain ⟨Px, csx, rfl⟩ := row_len r7
      obtain ⟨Pe, cse, rfl⟩ := row_len r9
      obtain ⟨Pc, csc, rfl⟩ := row_len r10
      obtain ⟨Pd, csd, rfl⟩ := row_len r11
      obtain ⟨nt, hnt⟩ : ∃ k, m.types.length = k := ⟨_, rfl⟩
      obtain ⟨ni, hni⟩ : ∃ k, m.imps.length = k := ⟨_, rfl⟩
      obtain ⟨nf, hnf⟩ : ∃ k, m.funcs.length = k := ⟨_, rfl⟩
      obtain ⟨na, hna⟩ : ∃ k, m.tabs.length = k := ⟨_, rfl⟩
      obtain ⟨nm, hnm⟩ : ∃ k, m.mems.length = k := ⟨_, rfl⟩
      obtain ⟨ng, hng⟩ : ∃ k, m.globs.length = k := ⟨_, rfl⟩
      obtain ⟨nx, hnx⟩ : ∃ k, m.exps.length = k := ⟨_, rfl⟩
      obtain ⟨ne, hne⟩ : ∃ k, m.elems.length = k := ⟨_, rfl⟩
      obtain ⟨nc, hnc⟩ : ∃ k, m.codes.length = k := ⟨_, rfl⟩
      obtain ⟨nd, hnd⟩ : ∃ k, m.datas.length = k := ⟨_, rfl⟩
      have HNF := Lib.hid hnf
      have HNC := Lib.hid hnc
      rw [hnt, hni, hnf, hna, hnm, hng, hnx, hne, hnc, hnd] at HC HH
      obtain ⟨st, hst⟩ : ∃ s, m.start = s := ⟨_, rfl⟩
      rw [hst] at HC HH
      have c0 := (Sec.cells_at HC.out 0).1
      have c1 := (Sec.cells_at HC.out 1).1
      have c2 := (Sec.cells_at HC.out 2).1
      have c3 := (Sec.cells_at HC.out 3).1
      have c4 := (Sec.cells_at HC.out 4).1
      have c5 := (Sec.cells_at HC.out 5).1
      have c6 := (Sec.cells_at HC.out 6).1
      have c7 := (Sec.cells_at HC.out 7).1
      have c8 := (Sec.cells_at HC.out 8).1
      have c9 := (Sec.cells_at HC.out 9).1
      have c10 := (Sec.cells_at HC.out 10).1
      have HCL : Hid ((plainM m).codes.length = nc ∧ (plainM m).funcs.length = nf) := Lib.hid ⟨by show (m.codes.map _).length = _; rw [List.length_map, hnc], hnf⟩
      have HBF : Hid (Below w.heap.size w wr) := Lib.hid (HB1.out.trans (HW.out.mono (Nat.le_of_lt HGW.out)))
      clear r1 r2 r3 r4 r5 r6 r7 r8 r9 r10 r11 hnt hni hnf hna hnm hng hnx hne hnc hnd hst e
      by_cases hl : nc = nf
      · subst hl
        have HQ5 : Hid (Q = (plainM m, 0)) := Lib.hid (by rw [← HQ.out, HPQ2.out]; unfold decEnd; rw [if_neg (by simp), if_neg (by rw [HCL.out.1, HCL.out.2]; simp)])
        have t1 : ((nc : Int) == (nc : Int)) = true := by simp
        go_wp2_with fail
        refine (need_ok 3 wr).mono ?_
        rintro en w5 ⟨rfl, hw5⟩
        obtain rfl : wr = w5 := hw5.symm
        have HRW : Hid (wr.heap[w.heap.size]? = some (.cells #[.slice none 0 0, .slice none 0 0, .slice none 0 0, .slice none 0 0, .slice none 0 0, .slice none 0 0, .slice none 0 0, .int .i64 0, .slice none 0 0, .slice none 0 0, .slice none 0 0] 34 (0, 0))) := Lib.hid (by rw [HW.out.block w.heap.size HGW.out]; exact HRB.out)
        have HLD := Lib.hid (run_ldM HC.out)
        have HST := Lib.hid (run_stM (c0 := .slice Pt nt cst) (c1 := .slice Pi ni csi) (c2 := .slice Pf nc csf) (c3 := .slice Pa na csa) (c4 := .slice Pm nm csm) (c5 := .slice Pg ng csg) (c6 := .slice Px nx csx) (c7 := .int .i64 st) (c8 := .slice Pe ne cse) (c9 := .slice Pc nc csc) (c10 := .slice Pd nd csd) HRW.out rfl (by intro v hv; simp only [List.mem_cons, List.not_mem_nil, or_false] at hv; rcases hv with rfl | rfl | rfl | rfl | rfl | rfl | rfl | rfl | rfl | rfl | rfl <;> rfl))
        clear c0 c1 c2 c3 c4 c5 c6 c7 c8 c9 c10
        go_upto_region 13 with fail
        obtain ⟨W', hW'⟩ : ∃ W', wr.setRow w.heap.size #[.slice Pt nt cst, .slice Pi ni csi, .slice Pf nc csf, .slice Pa na csa, .slice Pm nm csm, .slice Pg ng csg, .slice Px nx csx, .int .i64 st, .slice Pe ne cse, .slice Pc nc csc, .slice Pd nd csd] = W' := ⟨_, rfl⟩
        have HWH : Hid (W'.heap[w.heap.size]? = some (.cells #[.slice Pt nt cst, .slice Pi ni csi, .slice Pf nc csf, .slice Pa na csa, .slice Pm nm csm, .slice Pg ng csg, .slice Px nx csx, .int .i64 st, .slice Pe ne cse, .slice Pc nc csc, .slice Pd nd csd] 34 (0, 0))) := Lib.hid (by rw [← hW']; exact setRow_heap wr w.heap.size _ _ _ _ HRW.out)
        have HWA : Hid (AgP (gm + 1) wr W') := Lib.hid (by rw [← hW']; exact agp_row wr (Nat.lt_succ_of_lt HGW.out) _)
        have HWB : Hid (Below w.heap.size w W') := Lib.hid (HBF.out.trans (by rw [← hW']; exact below_row wr (Nat.le_refl _) _))
        rw [hW'] at HST
        refine wp_region_lit ?_
        refine wpList_ld rfl _ _ _ rfl HLD.out ?_
        refine wpList_st rfl _ _ _ rfl HST.out ?_
        clear hW'
        have z0 := (Sec.cells_at HWH.out 0).1
        have z1 := (Sec.cells_at HWH.out 1).1
        have z2 := (Sec.cells_at HWH.out 2).1
        have z3 := (Sec.cells_at HWH.out 3).1
        have z4 := (Sec.cells_at HWH.out 4).1
        have z5 := (Sec.cells_at HWH.out 5).1
        have z6 := (Sec.cells_at HWH.out 6).1
        have z7 := (Sec.cells_at HWH.out 7).1
        have z8 := (Sec.cells_at HWH.out 8).1
        have z9 := (Sec.cells_at HWH.out 9).1
        have z10 := (Sec.cells_at HWH.out 10).1
        go_wp2_with fail
        exact bodyPost_ret (v := .agg #[.slice Pt nt cst, .slice Pi ni csi, .slice Pf nc csf, .slice Pa na csa, .slice Pm nm csm, .slice Pg ng csg, .slice Px nx csx, .int .i64 st, .slice Pe ne cse, .slice Pc nc csc, .slice Pd nd csd]) (by simp [results, Tryz.results33, go_sem, z0, z1, z2, z3, z4, z5, z6, z7, z8, z9, z10]) rfl ⟨.inl ⟨by rw [HQ5.out], ⟨_, m, rfl, (HH.out.step HWA.out).low (Nat.le_succ_of_le (Nat.le_of_lt HGW.out)), by rw [HQ5.out]⟩⟩, HWB.out⟩
      · have HQ5 : Hid (Q = (noMod 0, 3)) := Lib.hid (by rw [← HQ.out, HPQ2.out]; unfold decEnd; rw [if_neg (by simp), if_pos (by rw [HCL.out.1, HCL.out.2]; exact hl)])
        have t1 : ((nc : Int) == (nf : Int)) = false := by simp; omega
        have t2 : (nc == nf) = false := by simpa using hl
        clear hl
        go_wp2_with fail
        refine (need_no 3 wr).mono ?_
        rintro en w5 ⟨rfl, rfl⟩
        exact bodyPost_pan (P := Tryz.prog) (fn := Tryz.f33) rfl ⟨.inr ⟨by rw [HQ5.out]; decide, by rw [HQ5.out]⟩, HBF.out⟩
end Go.Proofs.YtffegkjlgeblbaaGreatDoor.Mdl
end

section
/- The program's lists of Pair, laid: walked. -/
namespace Go.Proofs.YtffegkjlgeblbaaGreatDoor.Mdl
open Go.RowKit Ints Typ Ins
set_option maxRecDepth 100000
set_option maxHeartbeats 4000000
set_option linter.unusedVariables false
theorem wlist_Pair (okf : (Int × Int) → Bool) (xf : (Int × Int) → List Int) (m : Int) (K : Nat) {w : World} {v : Value} {L : List (Int × Int)} {g : Nat} {b : List Int} {bad : Bool} (hw : WS w g b bad) (hr : ∀ W, WFr g w W → RowG.Row elP W v L) (hL : L.length ≤ 100000)
    (hrun : ∀ args W, (callFunc K args).run Tryz.prog W = .ok (.enter K args) W)
    (hone : ∀ W b' bad' p, p ∈ L → WS W g b' bad' → Calls Tryz.prog K #[.pointer (some ⟨g, 0, none⟩), (fun p : Int × Int => .agg #[.int .i64 p.1, .int .i64 p.2]) p] W (WTold g b' bad' (okf p) (xf p) W)) :
    Calls Tryz.prog 228 #[.pointer (some ⟨g, 0, none⟩), v, .int .i64 m, .func (.func K) #[.pointer (some ⟨g, 0, none⟩)] #[]] w (WTold g b bad (decide ((L.length : Int) ≤ m) && L.all okf) (Leb.uB L.length ++ L.flatMap xf) w) := by
  obtain ⟨P, c, rfl⟩ := row_len (hr w (WFr.refl g w))
  obtain ⟨n, hn⟩ : ∃ n, L.length = n := ⟨_, rfl⟩
  have HN := Lib.hid hn
  rw [hn] at hr hL ⊢
  have HR := Lib.hid hr
  have HONE := Lib.hid hone
  obtain ⟨hd, hhd⟩ : ∃ r, decide ((n : Int) ≤ m) = r := ⟨_, rfl⟩
  have HWN := Lib.hid (wneed hd hw)
  have HD := Lib.hid (hw.set1 (bad || !hd))
  obtain ⟨W1, hW1⟩ : ∃ W, w.setCell ⟨g, 1, none⟩ (.bool (bad || !hd)) = W := ⟨_, rfl⟩
  have HFR : Hid (WFr g w W1) := Lib.hid (by rw [← hW1]; exact (WFr.refl g w).setCell _ _)
  rw [hW1] at HD HWN
  rw [hhd]
  obtain ⟨TO, hTO⟩ : ∃ r, (hd && L.all okf) = r := ⟨_, rfl⟩
  obtain ⟨TX, hTX⟩ : ∃ r, Leb.uB n ++ L.flatMap xf = r := ⟨_, rfl⟩
  have HTO := Lib.hid hTO
  have HTX := Lib.hid hTX
  rw [hTO, hTX]
  clear hW1 hw hr hone hn hTO hTX
  go_enter Tryz.func228, Tryz.ntmps228
  go_wp2_with fail
  refine HWN.out.mono ?_
  rintro en w1 ⟨rfl, hw1⟩
  obtain rfl : W1 = w1 := hw1.symm
  go_wp2_with fail
  refine (wnum (n : Int) (by omega) HD.out).mono ?_
  rintro en w2 ⟨b2, bad2, rfl, hs2, hp2, hf2⟩
  have HS2 := Lib.hid hs2
  have HP2 : Hid (Puts b bad b2 bad2 hd (Leb.uB n)) := Lib.hid (Puts.after (by rw [okU_nat hL, Int.toNat_natCast] at hp2; exact hp2))
  have HF2 := Lib.hid (HFR.out.trans hf2)
  clear hs2 hp2 hf2 hhd
  go_wp2_with fail
  go_loopw [22] (fun i' wr => ∃ (i : Nat) (b' : List Int) (bad' : Bool), i' = .int .i64 (i : Int) ∧ i ≤ n ∧ WS wr g b' bad' ∧ Puts b bad b' bad' (hd && (L.take i).all okf) (Leb.uB n ++ (L.take i).flatMap xf) ∧ WFr g w wr) (fun i' _ => n - (intOf i').toNat)
  case atStart => exact ⟨0, b2, bad2, by go_num, by omega, HS2.out, by simpa using HP2.out, HF2.out⟩
  case round =>
    obtain ⟨i, b', bad', rfl, hi, hs, hp, hf⟩ := hrel
    have HS := Lib.hid hs
    have HP := Lib.hid hp
    have HF := Lib.hid hf
    clear hs hp hf HS2 HP2 HF2
    by_cases hlt : i < n
    · obtain ⟨p, hp⟩ : ∃ p, L[i]? = some p := ⟨_, List.getElem?_eq_getElem (by rw [HN.out]; exact hlt)⟩
      obtain ⟨g1, off, rfl, hg1, hA, hok⟩ := (HR.out wr HF.out).at_ hp
      rw [show (elP.s) = 2 from rfl] at hA
      have q0 := hA 0 (.int .i64 p.1) rfl
      have q1 := hA 1 (.int .i64 p.2) rfl
      rw [Nat.add_zero] at q0
      have HPM := Lib.hid (List.mem_of_getElem? hp)
      have HAN := Lib.hid (all_next okf hp)
      have HFN := Lib.hid (flat_next xf hp)
      have i1 : (0 : Int) ≤ (i : Int) := by omega
      have i2 : (i : Int) < (n : Int) := by omega
      have hw1 : IntKind.i64.wrap ((i : Int) + 1) = (i : Int) + 1 := IntWalk.i64_in _ (by omega)
      clear hA hp hg1
      obtain ⟨x0, x1⟩ := p
      obtain ⟨W2, hW2⟩ : ∃ W, wr.alloc (.cells #[.int .i64 x0, .int .i64 x1] 45) = W := ⟨_, rfl⟩
      have HA2 : Hid (Below wr.heap.size wr W2) := Lib.hid (by rw [← hW2]; exact (Below.refl _ _).alloc (Nat.le_refl _) _)
      have HS2 : Hid (WS W2 g b' bad') := Lib.hid (HS.out.keep HA2.out)
      have HF2 : Hid (WFr g w W2) := Lib.hid (HF.out.trans (WFr.of_below HA2.out HS.out.lt))
      have HO2 := Lib.hid (HONE.out W2 b' bad' _ HPM.out HS2.out)
      rw [← hW2] at HS2 HF2 HO2
      obtain ⟨⟨Pb, cb, h1, _⟩, _⟩ := id HS.out
      have d1 := Lib.cell?_alloc_some (.cells #[.int .i64 x0, .int .i64 x1] 45) (Sec.cells_at h1 1).1
      clear h1 hW2
      cases bad' with
      | true =>
        have HE : Hid (WTold g b bad TO TX w (.returned (.tuple #[])) (wr.alloc (.cells #[.int .i64 x0, .int .i64 x1] 45))) := Lib.hid ⟨b', true, rfl, HS2.out, by
          rw [← HTO.out, ← HTX.out, all_cut okf L i, flat_cut xf L i, ← Bool.and_assoc, ← List.append_assoc]
          exact Puts.stop HP.out, HF2.out⟩
        go_wp2_with fail
        exact bodyPost_ret (P := Tryz.prog) (fn := Tryz.f228) (v := .tuple #[]) (by simp [results, Tryz.results228, go_sem]) rfl HE.out
      | false =>
        go_wp2_with fail
        refine HO2.out.mono ?_
        rintro en w3 ⟨b3, bad3, rfl, hs3, hp3, hf3⟩
        have HS3 := Lib.hid hs3
        have HP3 : Hid (Puts b bad b3 bad3 (hd && (L.take (i + 1)).all okf) (Leb.uB n ++ (L.take (i + 1)).flatMap xf)) := Lib.hid (by
          rw [HAN.out, HFN.out, ← Bool.and_assoc, ← List.append_assoc]
          exact HP.out.trans hp3)
        have HF3 := Lib.hid (HF2.out.trans hf3)
        clear hs3 hp3 hf3
        go_wp2_with fail
        go_roundw
        case rel => exact ⟨i + 1, b3, bad3, by go_num, hlt, HS3.out, HP3.out, HF3.out⟩
        case measure => simp [intOf]; omega
    · have hin : i = n := by omega
      subst hin
      have HE : Hid (WTold g b bad TO TX w (.returned (.tuple #[])) wr) := Lib.hid ⟨b', bad', rfl, HS.out, by
        have := HP.out
        rw [List.take_of_length_le (by rw [HN.out]; exact Nat.le_refl _)] at this
        rw [← HTO.out, ← HTX.out]
        exact this, HF.out⟩
      go_wp2_with fail
      exact bodyPost_end (v := .tuple #[]) (by simp [results, Tryz.results228, go_sem]) rfl HE.out
end Go.Proofs.YtffegkjlgeblbaaGreatDoor.Mdl
end
