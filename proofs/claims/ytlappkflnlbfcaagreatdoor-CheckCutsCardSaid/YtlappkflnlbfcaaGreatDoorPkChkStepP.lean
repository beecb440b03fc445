/- ChkPathP, ChkBodyP, ChkAwM, ChkAwake, ChkCutM, ChkCutN, ChkStepP. -/
import Derived.Test.YtlappkflnlbfcaaGreatDoorPkChkPath
import Derived.Test.YtlappkflnlbfcaaGreatDoorPkStkPlain
import Derived.Test.YtlappkflnlbfcaaGreatDoorPkBodApp
import Derived.Test.YtlappkflnlbfcaaGreatDoorPkBodAppend
import Derived.WalkMore
section
/- The program's Path. -/
namespace Go.Proofs.YtlappkflnlbfcaaGreatDoor.Chk
open Go.RowKit Row9 Stk
set_option maxRecDepth 100000
set_option maxHeartbeats 2000000
set_option linter.unusedVariables false
/-- How Path ends. -/
def PathEnds (w : World) (R : List Stk × Int) (e : Ending) (w' : World) : Prop :=
  (if R.2 = 0 then ∃ v rows, e = .returned (.tuple #[v, .int .i64 0]) ∧ Row elS w' v rows ∧ rows.map (·.1) = R.1 else e = .returned (.tuple #[.slice none 0 0, .int .i64 R.2])) ∧ Below w.heap.size w w'
theorem path_any {w : World} {V : EV} {E : EnvP} {A : Option Addr} {n c : Nat} {l : List (Ins.Ins × Value)} (h0 : EnvOk elGP w V E) (hr : Ins.InRow w (.slice A n c) l) (hK : Ins.KTab w) (hA : Ins.ATab w) (hF : FnBd E) (hln : l.length = n) (hn : n ≤ 200) :
    Calls Tryz.prog 21 #[evV V E, .slice A n c] w (PathEnds w (pathR E (l.map (·.1)))) := by
  have HB1 := Lib.hid (below2 w (.cells #[.slice V.Pt V.nt V.ct, .slice V.Pf V.nf V.cf, .int .i64 E.tables, .int .i64 E.mems, .slice V.Pg V.ng V.cg, .slice V.Pl V.nl V.cl, .slice V.Pr V.nr V.cr] 45) (.cells #[.slice none 0 0] 60))
  have HX := Lib.hid (blk (heap_new w (.cells #[.slice V.Pt V.nt V.ct, .slice V.Pf V.nf V.cf, .int .i64 E.tables, .int .i64 E.mems, .slice V.Pg V.ng V.cg, .slice V.Pl V.nl V.cl, .slice V.Pr V.nr V.cr] 45)) (below_new _ (.cells #[.slice none 0 0] 60)))
  have HZ := Lib.hid (heap_new (w.alloc (.cells #[.slice V.Pt V.nt V.ct, .slice V.Pf V.nf V.cf, .int .i64 E.tables, .int .i64 E.mems, .slice V.Pg V.ng V.cg, .slice V.Pl V.nl V.cl, .slice V.Pr V.nr V.cr] 45)) (.cells #[.slice none 0 0] 60))
  rw [size_new] at HZ
  have HJ : Hid (PathJ (w.heap.size + 1) [] ((w.alloc (.cells #[.slice V.Pt V.nt V.ct, .slice V.Pf V.nf V.cf, .int .i64 E.tables, .int .i64 E.mems, .slice V.Pg V.ng V.cg, .slice V.Pl V.nl V.cl, .slice V.Pr V.nr V.cr] 45)).alloc (.cells #[.slice none 0 0] 60))) :=
    Lib.hid ⟨none, 0, [], HZ.out, own_nil _ _ _, rfl, (fun g cur e fr hg => by cases hg), (fun p hp => by cases hp)⟩
  have HW := Lib.hid (walk_any (path_tell (V := V) (E := E) (z := w.heap.size + 1) (Nat.le_succ _)) h0 hr hK hA hF hln hn HB1.out HJ.out)
  clear h0 hr hK hA hF hln hn
  generalize pathR E (l.map (·.1)) = R at *
  obtain ⟨b0, b1, b2, b3, b4, b5, b6⟩ := cells7 HX.out
  show Calls _ _ #[.agg #[.slice V.Pt V.nt V.ct, .slice V.Pf V.nf V.cf, .int .i64 E.tables, .int .i64 E.mems, .slice V.Pg V.ng V.cg, .slice V.Pl V.nl V.cl, .slice V.Pr V.nr V.cr], .slice A n c] _ _
  go_enter Tryz.func21, Tryz.ntmps21
  go_wp2_with fail
  refine HW.out.mono ?_
  rintro e w1 ⟨rfl, hj, hb⟩
  clear b0 b1 b2 b3 b4 b5 b6
  have HB := Lib.hid hb
  obtain ⟨P, c1, rows, h1, h2, h3, h4, h5⟩ := hj
  have HZ1 := Lib.hid h1
  have HR := Lib.hid (h2.row h5)
  have HM := Lib.hid h3
  have z0 := (cells_at h1 0).1
  simp only [List.getElem?_toArray, List.getElem?_cons_zero] at z0
  obtain ⟨L, r⟩ := R
  simp only at h1 h2 h3 h4 h5 z0 HR HM HZ1
  generalize L.length = n1 at *
  clear h1 h2 h3 h4 h5 hb
  by_cases hr : r = 0
  · subst hr
    go_wp2_with fail
    exact bodyPost_ret (v := .tuple #[.slice P n1 c1, .int .i64 0]) (by simp [results, Tryz.results21, go_sem]) rfl ⟨⟨_, rows, rfl, HR.out, HM.out⟩, HB.out⟩
  · have hz : (r == 0) = false := by simpa using hr
    clear z0
    go_wp2_with fail
    exact bodyPost_ret (v := .tuple #[.slice none 0 0, .int .i64 r]) (by simp [results, Tryz.results21, go_sem]) rfl ⟨by rw [if_neg hr], HB.out⟩
end Go.Proofs.YtlappkflnlbfcaaGreatDoor.Chk
end

section
/- The program's Body: the last stack kept, then closed. -/
namespace Go.Proofs.YtlappkflnlbfcaaGreatDoor.Chk
open Go.RowKit Row9 Stk
set_option maxRecDepth 100000
set_option maxHeartbeats 2000000
set_option linter.unusedVariables false
def lastS (t : List Stk) : Stk := t.getLast?.getD none_
/-- The stack that Body's closure keeps. -/
def BodyJ (z : Nat) (t : List Stk) (w : World) : Prop := ∃ P n c Q m d, w.heap[z]? = some (.cells #[.slice P n c, .slice Q m d] 39 (0, 0)) ∧ StIs elP w (.agg #[.slice P n c, .slice Q m d]) (lastS t) ∧ Bd (.ok (lastS t)) 300000
theorem BodyJ.keep {z : Nat} {t : List Stk} {w w' : World} (h : BodyJ z t w) (hb : Below w.heap.size w w') : BodyJ z t w' := by
  obtain ⟨P, n, c, Q, m, d, h1, h2, h3⟩ := h
  exact ⟨P, n, c, Q, m, d, blk h1 hb, h2.keep hb, h3⟩
theorem BodyJ.but {z : Nat} {t : List Stk} {w w' : World} {k : Nat} {V : EV} {E : EnvP} {P : Option Addr} {n c : Nat} {Q : Option Addr} {m d : Nat} {e : Int} (h : BodyJ z t w) (hk : w.heap[k]? = some (ckObj V E (.slice P n c) (.slice Q m d) e)) (hb : But k w w') : BodyJ z t w' := by
  obtain ⟨P, n, c, Q, m, d, h1, h2, h3⟩ := h
  have hz : z ≠ k := fun e => by
    subst e
    rw [h1] at hk
    injection hk with hk
    injection hk with _ hk
    exact absurd hk (by decide)
  exact ⟨P, n, c, Q, m, d, (hb.block z (lt_of_heap h1) hz).trans h1, StIs.apart (e := 72) (hi := infoP) h2 (nobb_ck hk) hb, h3⟩
theorem cells2s {w : World} {y : Nat} {a b : Value} {t : TypeId} (h : w.heap[y]? = some (.cells #[a, b] t (0, 0))) : w.cell? ⟨y, 0, none⟩ = some a ∧ w.cell? ⟨y, 1, none⟩ = some b ∧ w.frozen? ⟨y, 0, none⟩ = false ∧ w.frozen? ⟨y, 1, none⟩ = false :=
  ⟨(cells_at h 0).1, (cells_at h 1).1, (cells_at h 0).2, (cells_at h 1).2⟩
theorem body1_any {z B : Nat} {t : List Stk} {w : World} {v : Value} {s : Stk} (h : BodyJ z t w) (hB : B ≤ z) (hs : StIs elP w v s) (hbd : Bd (.ok s) 300000) :
    Calls Tryz.prog 51 (#[v] ++ #[.pointer (some ⟨z, 0, none⟩)]) w fun e w' => e = .returned (.tuple #[]) ∧ BodyJ z (t ++ [s]) w' ∧ Tw B w w' := by
  obtain ⟨P, n, c, Q, m, d, h1, h2, h3⟩ := h
  obtain ⟨va, vc, lc, rfl, ha, hc, hm⟩ := id hs
  obtain ⟨Pa, ca, rfl, _⟩ := ha.form
  obtain ⟨Pc, cc, rfl, _⟩ := hc.form
  have hla : lastS (t ++ [s]) = s := by unfold lastS; simp
  have HLA := Lib.hid hla
  have HBD := Lib.hid hbd
  generalize s.vals.length = na at *
  generalize lc.length = nc at *
  have HZ := Lib.hid h1
  have HST := Lib.hid hs
  obtain ⟨z0, z1, f0, f1⟩ := cells2s h1
  have zl := lt_of_heap h1
  clear h1 h2 h3 hs ha hc hm hla hbd
  show Calls _ _ #[.agg #[.slice Pa na ca, .slice Pc nc cc], .pointer (some ⟨z, 0, none⟩)] _ _
  go_enter Tryz.func51, Tryz.ntmps51
  go_wp2_with fail
  have hbz : But z w ((w.setCell ⟨z, 0, none⟩ (.slice Pa na ca)).setCell ⟨z, 1, none⟩ (.slice Pc nc cc)) := ((But.refl z w).setCell 0 _).setCell 1 _
  have hnz : NoBB w z := nobb_of HZ.out (by intro u hu; simp only [List.mem_cons, List.not_mem_nil, or_false] at hu; rcases hu with rfl | rfl <;> exact nop_slice _ _ _)
  have hz2 : ((w.setCell ⟨z, 0, none⟩ (.slice Pa na ca)).setCell ⟨z, 1, none⟩ (.slice Pc nc cc)).heap[z]? = some (.cells #[.slice Pa na ca, .slice Pc nc cc] 39 (0, 0)) := by
    rw [set_heap (set_heap HZ.out _)]
    rfl
  have hs2 := StIs.apart (e := 72) (hi := infoP) HST.out hnz hbz
  generalize (w.setCell ⟨z, 0, none⟩ (.slice Pa na ca)).setCell ⟨z, 1, none⟩ (.slice Pc nc cc) = u0 at *
  have hbn := below_new u0 (.cells #[.slice Pa na ca, .slice Pc nc cc] 39)
  refine bodyPost_end (v := .tuple #[]) (by simp [results, Tryz.results51, go_sem]) rfl ⟨rfl, ⟨Pa, na, ca, Pc, nc, cc, blk hz2 hbn, ?_, ?_⟩, (((Tw.refl w).but hnz hB HZ.out (by decide) (by decide) hbz).keep hbn)⟩
  · rw [HLA.out]
    exact hs2.keep hbn
  · rw [HLA.out]
    exact HBD.out
theorem body_tell {w0 : World} {V : EV} {E : EnvP} {z : Nat} (hz : w0.heap.size ≤ z) : Tell w0 V E 51 (.pointer (some ⟨z, 0, none⟩)) (BodyJ z) where
  ok := ⟨_, Tryz.func51, by kernel_rfl, by kernel_rfl⟩
  keep := fun h hb => h.keep hb
  but := fun h _ hk hb => h.but hk hb
  call := fun h _ hs hbd _ => body1_any h hz hs hbd
/-- What Body answers. -/
def bodyR (E : EnvP) (l : List Ins.Ins) : Int := if (pathR E l).2 = 0 then (if (closeS (lastS (pathR E l).1)).2.2 = 0 then 0 else 5) else (pathR E l).2
theorem body_any {w : World} {V : EV} {E : EnvP} {A : Option Addr} {n c : Nat} {l : List (Ins.Ins × Value)} (h0 : EnvOk elGP w V E) (hr : Ins.InRow w (.slice A n c) l) (hK : Ins.KTab w) (hA : Ins.ATab w) (hF : FnBd E) (hln : l.length = n) (hn : n ≤ 200) :
    Calls Tryz.prog 23 #[evV V E, .slice A n c] w fun e w' => e = .returned (.int .i64 (bodyR E (l.map (·.1)))) ∧ Below w.heap.size w w' := by
  have HB1 := Lib.hid (below2 w (.cells #[.slice V.Pt V.nt V.ct, .slice V.Pf V.nf V.cf, .int .i64 E.tables, .int .i64 E.mems, .slice V.Pg V.ng V.cg, .slice V.Pl V.nl V.cl, .slice V.Pr V.nr V.cr] 45) (.cells #[.slice none 0 0, .slice none 0 0] 39))
  have HX := Lib.hid (blk (heap_new w (.cells #[.slice V.Pt V.nt V.ct, .slice V.Pf V.nf V.cf, .int .i64 E.tables, .int .i64 E.mems, .slice V.Pg V.ng V.cg, .slice V.Pl V.nl V.cl, .slice V.Pr V.nr V.cr] 45)) (below_new _ (.cells #[.slice none 0 0, .slice none 0 0] 39)))
  have HZ := Lib.hid (heap_new (w.alloc (.cells #[.slice V.Pt V.nt V.ct, .slice V.Pf V.nf V.cf, .int .i64 E.tables, .int .i64 E.mems, .slice V.Pg V.ng V.cg, .slice V.Pl V.nl V.cl, .slice V.Pr V.nr V.cr] 45)) (.cells #[.slice none 0 0, .slice none 0 0] 39))
  rw [size_new] at HZ
  have HJ : Hid (BodyJ (w.heap.size + 1) [] ((w.alloc (.cells #[.slice V.Pt V.nt V.ct, .slice V.Pf V.nf V.cf, .int .i64 E.tables, .int .i64 E.mems, .slice V.Pg V.ng V.cg, .slice V.Pl V.nl V.cl, .slice V.Pr V.nr V.cr] 45)).alloc (.cells #[.slice none 0 0, .slice none 0 0] 39))) :=
    Lib.hid ⟨none, 0, 0, none, 0, 0, HZ.out, StIs.none_ _ _, fun s h => by injection h with h; subst h; exact ⟨Nat.zero_le _, Nat.zero_le _⟩⟩
  have HW := Lib.hid (walk_any (body_tell (V := V) (E := E) (z := w.heap.size + 1) (Nat.le_succ _)) h0 hr hK hA hF hln hn HB1.out HJ.out)
  clear h0 hr hK hA hF hln hn
  have HBE : Hid (bodyR E (l.map (·.1)) = if (pathR E (l.map (·.1))).2 = 0 then (if (closeS (lastS (pathR E (l.map (·.1))).1)).2.2 = 0 then 0 else 5) else (pathR E (l.map (·.1))).2) := rfl
  generalize bodyR E (l.map (·.1)) = rr at *
  generalize pathR E (l.map (·.1)) = R at *
  obtain ⟨b0, b1, b2, b3, b4, b5, b6⟩ := cells7 HX.out
  show Calls _ _ #[.agg #[.slice V.Pt V.nt V.ct, .slice V.Pf V.nf V.cf, .int .i64 E.tables, .int .i64 E.mems, .slice V.Pg V.ng V.cg, .slice V.Pl V.nl V.cl, .slice V.Pr V.nr V.cr], .slice A n c] _ _
  go_enter Tryz.func23, Tryz.ntmps23
  go_wp2_with fail
  refine HW.out.mono ?_
  rintro e w1 ⟨rfl, ⟨P, n1, c1, Q, m1, d1, h1, h2, h3⟩, hb⟩
  clear b0 b1 b2 b3 b4 b5 b6
  have HB := Lib.hid hb
  obtain ⟨L, r⟩ := R
  simp only at h1 h2 h3
  have HC := Lib.hid (Close_st h2 (Nat.le_trans (h3 _ rfl).1 (by omega)) (Nat.le_trans (h3 _ rfl).2 (by omega)))
  obtain ⟨z0, z1, _, _⟩ := cells2s h1
  have zl := lt_of_heap h1
  clear h1 h2 h3 hb
  by_cases hr : r = 0
  · subst hr
    go_wp2_with fail
    refine HC.out.mono ?_
    rintro e w2 ⟨⟨v, u, rfl, hs, hu⟩, hb⟩
    obtain ⟨va, vc, lc, rfl, ha, hc, _⟩ := hs
    obtain ⟨Pa, ca, rfl, _⟩ := ha.form
    obtain ⟨Pc, cc, rfl, _⟩ := hc.form
    obtain ⟨Pu, cu, rfl, _⟩ := hu.form
    have HB2 := Lib.hid (HB.out.trans (hb.mono HB.out.size))
    clear z0 z1 zl ha hc hb HC hu
    generalize closeS (lastS L) = C at *
    obtain ⟨C1, C2, ce⟩ := C
    by_cases he : ce = 0
    · subst he
      go_wp2_with fail
      exact bodyPost_ret (v := .int .i64 0) (by simp [results, Tryz.results23, go_sem]) rfl ⟨by rw [HBE.out]; rfl, (HB2.out.alloc HB2.out.size _).alloc (Nat.le_trans HB2.out.size (by rw [size_new]; omega)) _⟩
    · have hz : (ce == 0) = false := by simpa using he
      go_wp2_with fail
      exact bodyPost_ret (v := .int .i64 5) (by simp [results, Tryz.results23, go_sem]) rfl ⟨by rw [HBE.out, if_pos trivial, if_neg he], (HB2.out.alloc HB2.out.size _).alloc (Nat.le_trans HB2.out.size (by rw [size_new]; omega)) _⟩
  · have hz : (r == 0) = false := by simpa using hr
    clear z0 z1 zl HC
    go_wp2_with fail
    exact bodyPost_ret (v := .int .i64 r) (by simp [results, Tryz.results23, go_sem]) rfl ⟨by rw [HBE.out, if_neg hr], HB.out⟩
end Go.Proofs.YtlappkflnlbfcaaGreatDoor.Chk
end

section
/- The document's example, plain and in memory. -/
namespace Go.Proofs.YtlappkflnlbfcaaGreatDoor.Chk
open Go.RowKit Row9 Stk
set_option maxRecDepth 100000
set_option maxHeartbeats 2000000
set_option linter.unusedVariables false
def e0 : EnvP := ⟨[], [], 0, 0, [], [], []⟩
def e1 : EnvP := ⟨[], [], 0, 0, [], [], [127]⟩
def v0 : EV := ⟨none, 0, 0, none, 0, 0, none, 0, 0, none, 0, 0, none, 0, 0⟩
def v1 (g : Nat) : EV := ⟨none, 0, 0, none, 0, 0, none, 0, 0, none, 0, 0, some ⟨g, 0, none⟩, 1, 1⟩
def upL : List (Ins.Ins × Value) := [(⟨65, 0, 0, 0, []⟩, .slice none 0 0), (⟨26, 0, 0, 0, []⟩, .slice none 0 0)]
def upC : Array Value := #[.int .i64 65, .int .i64 0, .int .i64 0, .int .u64 0, .slice none 0 0, .int .i64 26, .int .i64 0, .int .i64 0, .int .u64 0, .slice none 0 0]
theorem up_ok (w : World) (o : Int) : Ins.InOk w (⟨o, 0, 0, 0, []⟩, .slice none 0 0) := ⟨Ins.SlI.nil w, (show Ints.u64R 0 by unfold Ints.u64R; decide)⟩
theorem up_row (w : World) : Ins.InRow (w.alloc (.cells upC 33)) (.slice (some ⟨w.heap.size, 0, none⟩) 2 2) upL := by
  refine ⟨⟨_, 2, rfl, by decide, by decide, fun _ => ⟨w.heap.size, 0, rfl, by rw [size_new]; omega, fun j p hp => ?_⟩⟩, fun p hp => ?_⟩
  · match j, hp with
    | 0, hp => simp only [upL, List.getElem?_cons_zero, Option.some.injEq] at hp; subst hp; exact ⟨by simp [upC], by simp [upC], by simp [upC], by simp [upC], by simp [upC]⟩
    | 1, hp => simp only [upL, List.getElem?_cons_zero, List.getElem?_cons_succ, Option.some.injEq] at hp; subst hp; exact ⟨by simp [upC], by simp [upC], by simp [upC], by simp [upC], by simp [upC]⟩
    | j + 2, hp => simp [upL] at hp
  · simp only [upL, List.mem_cons, List.not_mem_nil, or_false] at hp
    rcases hp with rfl | rfl
    · exact up_ok _ _
    · exact up_ok _ _
theorem inrow_take {w : World} {A : Option Addr} {n c : Nat} {l : List (Ins.Ins × Value)} (h : Ins.InRow w (.slice A n c) l) (k : Nat) (hk : k ≤ n) : Ins.InRow w (.slice A k c) (l.take k) := by
  obtain ⟨⟨A', c', h1, h2, h3, h4⟩, h5⟩ := h
  injection h1 with e1 e2 e3
  subst e1 e3
  have hl : (l.take k).length = k := by rw [List.length_take, ← e2]; omega
  refine ⟨⟨A, c, by rw [hl], by rw [hl]; omega, h3, fun h0 => ?_⟩, fun p hp => h5 p (List.mem_of_mem_take hp)⟩
  obtain ⟨g, off, e, hg, hB⟩ := h4 (fun e => h0 (by rw [e, List.take_nil]))
  refine ⟨g, off, e, hg, fun j p hp => hB j p ?_⟩
  rw [List.getElem?_take] at hp
  split at hp
  · exact hp
  · cases hp
theorem env_0 (w : World) : EnvOk elGP w v0 e0 := ⟨⟨[], Row.nil _ _, rfl⟩, Row.nil _ _, Row.nil _ _, Row.nil _ _, Row.nil _ _, by unfold w64 e0; decide, by unfold w64 e0; decide⟩
theorem env_1 (w : World) : EnvOk elGP (w.alloc (.cells #[.int .u8 127] 5)) (v1 w.heap.size) e1 := ⟨⟨[], Row.nil _ _, rfl⟩, Row.nil _ _, Row.nil _ _, Row.nil _ _, row_lit1 w 127 ⟨by omega, by omega⟩, by unfold w64 e1; decide, by unfold w64 e1; decide⟩
theorem bd_0 : FnBd e0 := ⟨(fun p hp => nomatch hp), Nat.zero_le _⟩
theorem bd_1 : FnBd e1 := ⟨(fun p hp => nomatch hp), show 1 ≤ 1000 by omega⟩
theorem up_p2 : (pathR e0 (upL.map (·.1))).2 = 0 := by kernel_rfl
theorem up_p1 : (pathR e0 (upL.map (·.1))).1.length = 3 := by kernel_rfl
theorem up_b0 : bodyR e0 (upL.map (·.1)) = 0 := by kernel_rfl
theorem up_b1 : bodyR e1 (upL.map (·.1)) = 5 := by kernel_rfl
theorem up_b2 : bodyR e1 ((upL.take 1).map (·.1)) = 0 := by kernel_rfl
end Go.Proofs.YtlappkflnlbfcaaGreatDoor.Chk
end

section
/- The document's example, walked: it is true. -/
namespace Go.Proofs.YtlappkflnlbfcaaGreatDoor.Chk
open Go.RowKit Row9 Stk
set_option maxRecDepth 100000
set_option maxHeartbeats 4000000
set_option linter.unusedVariables false
theorem awake_any {w : World} (hK : Ins.KTab w) (hA : Ins.ATab w) : Calls Tryz.prog 9 #[] w fun e w' => e = .returned (.bool true) ∧ Below w.heap.size w w' := by
  have HBN := Lib.hid (below_new w (.cells upC 33))
  have HR := Lib.hid (up_row w)
  have HKT := Lib.hid (hK.keep HBN.out)
  have HAT := Lib.hid (hA.keep HBN.out)
  have HP := Lib.hid (path_any (env_0 _) HR.out HKT.out HAT.out bd_0 rfl (by decide))
  clear hK hA
  go_enter Tryz.func9, Tryz.ntmps9
  go_wp2_with fail
  rw [show (.cells #[.int .i64 65, .int .i64 0, .int .i64 0, .int .u64 0, .slice none 0 0, .int .i64 26, .int .i64 0, .int .i64 0, .int .u64 0, .slice none 0 0] 33 : Obj) = .cells upC 33 from rfl]
  generalize w.alloc (.cells upC 33) = W at *
  refine HP.out.mono ?_
  rintro e w1 ⟨hres, hb⟩
  rw [if_pos up_p2] at hres
  obtain ⟨v, rows, rfl, hrow, hm⟩ := hres
  have hlen : rows.length = 3 := by rw [← up_p1, ← hm, List.length_map]
  obtain ⟨P, c, rfl, _⟩ := hrow.form
  rw [hlen]
  clear hrow hm hlen
  have HB1 := Lib.hid (HBN.out.trans (hb.mono HBN.out.size))
  have HR := Lib.hid (HR.out.keep hb)
  have HKT := Lib.hid (HKT.out.keep hb)
  have HAT := Lib.hid (HAT.out.keep hb)
  clear hb HP
  go_wp2_with fail
  refine (body_any (env_0 _) HR.out HKT.out HAT.out bd_0 rfl (by decide)).mono ?_
  rintro e w2 ⟨rfl, hb⟩
  rw [up_b0]
  have HNA := Lib.hid (below_new w2 (.cells #[.int .u8 127] 5))
  have hb2 := hb.trans (HNA.out.mono hb.size)
  have HB2 := Lib.hid (HB1.out.trans (hb2.mono HB1.out.size))
  have HR := Lib.hid (HR.out.keep hb2)
  have HKT := Lib.hid (HKT.out.keep hb2)
  have HAT := Lib.hid (HAT.out.keep hb2)
  clear hb hb2
  go_wp2_with fail
  refine (body_any (env_1 w2) HR.out HKT.out HAT.out bd_1 rfl (by decide)).mono ?_
  rintro e w3 ⟨rfl, hb⟩
  rw [up_b1]
  have HNA3 := Lib.hid (below_new w3 (.cells #[.int .u8 127] 5))
  have hb2 := hb.trans (HNA3.out.mono hb.size)
  have HB3 := Lib.hid (HB2.out.trans (hb2.mono HB2.out.size))
  have HR := Lib.hid (HR.out.keep hb2)
  have HKT := Lib.hid (HKT.out.keep hb2)
  have HAT := Lib.hid (HAT.out.keep hb2)
  clear hb hb2
  go_wp2_with fail
  refine (body_any (env_1 w3) (inrow_take HR.out 1 (by decide)) HKT.out HAT.out bd_1 rfl (by decide)).mono ?_
  rintro e w4 ⟨rfl, hb⟩
  rw [up_b2]
  have HB4 := Lib.hid (HB3.out.trans (hb.mono HB3.out.size))
  clear hb
  go_wp2_with fail
  exact bodyPost_ret (v := .bool true) (by simp [results, Tryz.results9, go_sem]) rfl ⟨rfl, HB4.out⟩
end Go.Proofs.YtlappkflnlbfcaaGreatDoor.Chk
end

section
/- What is gone over stays sane; a path of a body cut where nothing is open. Plain. -/
namespace Go.Proofs.YtlappkflnlbfcaaGreatDoor.Chk
open Go.RowKit Row9 Stk
set_option maxRecDepth 100000
set_option maxHeartbeats 1000000
set_option linter.unusedVariables false
def OkS (x : Rs) : Prop := ∀ s, x = .ok s → sane s = true
theorem OkS.act {x : Rs} {f : Stk → Stk × Int} {a : Act9} (h : OkS x) (hf : ∀ t, f t = Stk.act t a) : OkS (x.bind fun s => ofP (f s)) := fun s hs => by
  obtain ⟨t, rfl, h2⟩ := bind_ok hs
  obtain ⟨h3, rfl⟩ := ofP_ok h2
  rw [hf] at h3 ⊢
  exact act_sane t a (h t rfl) h3
theorem OkS.push {x : Rs} {l : List Int} (h : OkS x) : OkS (pushR l x) := h.act (a := ⟨0, 0, l⟩) (f := fun s => pushS s l) fun t => (act_push (s := t) (a := ⟨0, 0, l⟩) (.inl rfl)).symm
theorem OkS.want {x : Rs} {l : List Int} (h : OkS x) : OkS (wantR l x) := h.act (a := ⟨3, 0, l⟩) (f := fun s => wantS s l) fun t => (act_want (s := t) (a := ⟨3, 0, l⟩) (.inl rfl)).symm
theorem OkS.pop {x : Rs} (h : OkS x) : OkS (popR x) := h.act (a := ⟨2, 0, []⟩) (f := fun s => ((popS s).1, (popS s).2.2)) fun t => (act_pop rfl).symm
theorem OkS.open {x : Rs} {op : Int} {l : List Int} (h : OkS x) : OkS (openR op l x) := h.act (a := ⟨5, op, l⟩) (f := fun s => openS s op l) fun t => (act_open (s := t) (a := ⟨5, op, l⟩) rfl).symm
theorem OkS.close {x : Rs} (h : OkS x) : OkS (closeR x) := h.act (a := ⟨6, 0, []⟩) (f := fun s => ((closeS s).1, (closeS s).2.2)) fun t => (act_close rfl).symm
theorem OkS.kill {x : Rs} (h : OkS x) : OkS (killR x) := h.act (a := ⟨7, 0, []⟩) fun t => (act_kill rfl).symm
theorem OkS.need {x : Rs} {b : Bool} {e : Int} (h : OkS x) : OkS (needR b e x) := fun s hs => by
  obtain ⟨t, rfl, h2⟩ := bind_ok hs
  split at h2
  · injection h2 with h2
    subst h2
    exact h t rfl
  · cases h2
theorem OkS.label {x : Rs} {i : Int} (h : OkS x) : OkS (labelR i x) := fun s hs => by
  obtain ⟨t, rfl, h2⟩ := bind_ok hs
  split at h2
  · injection h2 with h2
    subst h2
    exact h t rfl
  · cases h2
theorem OkS.ite {c : Prop} [Decidable c] {x y : Rs} (h1 : OkS x) (h2 : OkS y) : OkS (if c then x else y) := by
  split
  · exact h1
  · exact h2
theorem OkS.tab {l : List Int} : ∀ (r : List Int) {x : Rs}, OkS x → OkS (tabR l r x)
  | [], _, h => h
  | _ :: r, _, h => OkS.tab r h.label.need
theorem OkS.er (e : Int) : OkS (.er e) := fun s h => by cases h
theorem OkS.take {E : EnvP} {i : Ins.Ins} {s : Stk} (h : OkS (.ok s)) : OkS (takeR E i s) := by
  unfold takeR
  refine OkS.ite ?_ (OkS.ite ?_ (OkS.ite ?_ (OkS.ite (OkS.tab _ h.label).want.want.kill (OkS.ite h.need.need.want.want.push (OkS.ite ?_ (OkS.ite ?_ (OkS.ite h.push h.push)))))))
  · unfold plainR
    exact OkS.ite h.kill (OkS.ite h.push (OkS.ite h.need.close.open (OkS.ite h.need.close.need.push (OkS.ite h.want.kill (OkS.ite h.pop (OkS.ite h.want.pop.pop.need.push h.want.push))))))
  · exact (OkS.ite h.want h).open
  · unfold indexR
    refine OkS.ite h.label.want.kill (OkS.ite h.label.want.want.push (OkS.ite h.need.want.push (OkS.ite ?_ (OkS.ite h.need.push (OkS.ite h.need.need.want h)))))
    unfold localR
    exact OkS.ite (OkS.ite h.need h.need.want) (OkS.ite h.need h.need.want).push
  · unfold accessR
    exact OkS.ite h.need.need.want h.need.need.want.push
  · exact (OkS.ite h.need h.need.want).push
theorem instr_sane {E : EnvP} {i : Ins.Ins} {s t : Stk} (h : sane s = true) (ht : instrR E i s = .ok t) : sane t = true := by
  unfold instrR at ht
  split at ht
  · cases ht
  · exact OkS.take (s := s) (fun s' hs => by injection hs with hs; rw [← hs]; exact h) t ht
/-- All that is told is sane. -/
theorem go_sane {E : EnvP} : ∀ (l : List Ins.Ins) (s : Stk), sane s = true → ∀ t ∈ (pathGo E l s).1, sane t = true
  | [], s, h, t, ht => by
    rw [List.mem_singleton.1 ht]
    exact h
  | i :: l, s, h, t, ht => by
    unfold pathGo at ht
    cases hx : instrR E i s with
    | ok u =>
      rw [hx] at ht
      rcases List.mem_cons.1 ht with rfl | ht
      · exact h
      · exact go_sane l u (instr_sane h hx) t ht
    | er e =>
      rw [hx] at ht
      rw [List.mem_singleton.1 ht]
      exact h
/-- A path to its end: one stack more than instructions; each step of it. -/
theorem go_len {E : EnvP} : ∀ (l : List Ins.Ins) (s : Stk), (∃ L, pathGo E l s = (L, 0)) → (∀ i s e, instrR E i s = .er e → e ≠ 0) → (pathGo E l s).1.length = l.length + 1
  | [], s, _, _ => rfl
  | i :: l, s, ⟨L, h⟩, hz => by
    unfold pathGo at h ⊢
    cases hx : instrR E i s with
    | ok u =>
      rw [hx] at h
      simp only [Prod.mk.injEq] at h
      show ((pathGo E l u).1.length + 1) = _
      rw [go_len l u ⟨_, Prod.ext rfl h.2⟩ hz]
      rfl
    | er e =>
      rw [hx] at h
      simp only [Prod.mk.injEq] at h
      exact absurd h.2 (hz i s e hx)
theorem s0_sane {E : EnvP} (h : saneE E = true) : sane (s0 E) = true := by
  have := start_ok h
  exact (OkS.open (x := .ok ⟨[], []⟩) (op := 2) (l := E.results) (fun s hs => by injection hs with hs; rw [← hs]; rfl)) (s0 E) this
/-- A body cut where nothing is open is nested. -/
theorem cut_nested {ops : List Int} (h : Bod.Nested ops) {k : Nat} (hk : k ≤ ops.length) (hd : k < ops.length → (Bod.aroundD ops k).length = 0 ∧ ops.getD k 0 ≠ 5 ∧ ops.getD k 0 ≠ 11) : Bod.Nested (ops.take k) := by
  have hl : (ops.take k).length = k := by rw [List.length_take]; omega
  unfold Bod.Nested
  rw [hl]
  have hf := Bod.st_front (a := ops.take k) (z := ops.drop k) (p := k) (by rw [hl]; exact Nat.le_refl _)
  rw [List.take_append_drop] at hf
  rw [← hf]
  by_cases hlt : k < ops.length
  · obtain ⟨h1, h2, h3⟩ := hd hlt
    rw [Bod.sAt_st h hk]
    unfold Bod.aroundD Bod.sIn at h1
    rw [if_neg (by omega), List.length_map] at h1
    rw [List.eq_nil_of_length_eq_zero h1]
  · obtain rfl : k = ops.length := by omega
    exact h
end Go.Proofs.YtlappkflnlbfcaaGreatDoor.Chk
end

section
/- Errors are not OK; a path of a body cut: plain. -/
namespace Go.Proofs.YtlappkflnlbfcaaGreatDoor.Chk
open Go.RowKit Row9 Stk
set_option maxRecDepth 100000
set_option maxHeartbeats 1000000
set_option linter.unusedVariables false
def Nz (x : Rs) : Prop := ∀ e, x = .er e → e ≠ 0
theorem Nz.bind {x : Rs} {f : Stk → Rs} (h : Nz x) (hf : ∀ t, Nz (f t)) : Nz (x.bind f) := fun e he => by
  cases x with
  | ok t => exact hf t e he
  | er c => injection he with he; rw [← he]; exact h c rfl
theorem Nz.ofP (r : Stk × Int) : Nz (ofP r) := fun e he => ofP_ne he
theorem Nz.ok (s : Stk) : Nz (.ok s) := fun e he => nomatch he
theorem Nz.push {x : Rs} {l : List Int} (h : Nz x) : Nz (pushR l x) := h.bind fun _ => Nz.ofP _
theorem Nz.want {x : Rs} {l : List Int} (h : Nz x) : Nz (wantR l x) := h.bind fun _ => Nz.ofP _
theorem Nz.pop {x : Rs} (h : Nz x) : Nz (popR x) := h.bind fun _ => Nz.ofP _
theorem Nz.open {x : Rs} {op : Int} {l : List Int} (h : Nz x) : Nz (openR op l x) := h.bind fun _ => Nz.ofP _
theorem Nz.close {x : Rs} (h : Nz x) : Nz (closeR x) := h.bind fun _ => Nz.ofP _
theorem Nz.kill {x : Rs} (h : Nz x) : Nz (killR x) := h.bind fun _ => Nz.ofP _
theorem Nz.need {x : Rs} {b : Bool} {e : Int} (h : Nz x) (he : e ≠ 0) : Nz (needR b e x) := h.bind fun t c hc => by
  split at hc
  · cases hc
  · injection hc with hc
    rw [← hc]
    exact he
theorem Nz.label {x : Rs} {i : Int} (h : Nz x) : Nz (labelR i x) := h.bind fun t c hc => by
  split at hc
  · cases hc
  · injection hc with hc
    rw [← hc]
    assumption
theorem Nz.ite {c : Prop} [Decidable c] {x y : Rs} (h1 : Nz x) (h2 : Nz y) : Nz (if c then x else y) := by
  split
  · exact h1
  · exact h2
theorem Nz.tab {l : List Int} : ∀ (r : List Int) {x : Rs}, Nz x → Nz (tabR l r x)
  | [], _, h => h
  | _ :: r, _, h => Nz.tab r (h.label.need (by decide))
theorem Nz.take {E : EnvP} {i : Ins.Ins} {s : Stk} : Nz (takeR E i s) := by
  have h := Nz.ok s
  have d5 : (5 : Int) ≠ 0 := by decide
  have d6 : (6 : Int) ≠ 0 := by decide
  unfold takeR
  refine Nz.ite ?_ (Nz.ite ?_ (Nz.ite ?_ (Nz.ite (Nz.tab _ h.label).want.want.kill (Nz.ite ((h.need d6).need d6).want.want.push (Nz.ite ?_ (Nz.ite ?_ (Nz.ite h.push h.push)))))))
  · unfold plainR
    exact Nz.ite h.kill (Nz.ite h.push (Nz.ite (h.need d5).close.open (Nz.ite ((h.need d5).close.need d5).push (Nz.ite h.want.kill (Nz.ite h.pop (Nz.ite (h.want.pop.pop.need d5).push h.want.push))))))
  · exact (Nz.ite h.want h).open
  · unfold indexR
    refine Nz.ite h.label.want.kill (Nz.ite h.label.want.want.push (Nz.ite (h.need d6).want.push (Nz.ite ?_ (Nz.ite (h.need d6).push (Nz.ite ((h.need d6).need d5).want h)))))
    unfold localR
    exact Nz.ite (Nz.ite (h.need d6) (h.need d6).want) (Nz.ite (h.need d6) (h.need d6).want).push
  · unfold accessR
    exact Nz.ite ((h.need d6).need d5).want ((h.need d6).need d5).want.push
  · exact (Nz.ite (h.need d6) (h.need d6).want).push
theorem instr_nz {E : EnvP} (i : Ins.Ins) (s : Stk) (e : Int) (h : instrR E i s = .er e) : e ≠ 0 := by
  unfold instrR at h
  split at h
  · injection h with h
    rw [← h]
    decide
  · exact Nz.take e h
/-- A path to its end, cut. -/
theorem go_cut {E : EnvP} : ∀ (l : List Ins.Ins) (s : Stk) (k : Nat), (pathGo E l s).2 = 0 → k ≤ l.length → pathGo E (l.take k) s = ((pathGo E l s).1.take (k + 1), 0)
  | [], s, k, h, hk => by simp [pathGo]
  | i :: l, s, 0, h, hk => by
    unfold pathGo
    cases hx : instrR E i s with
    | ok t => rfl
    | er e => rfl
  | i :: l, s, k + 1, h, hk => by
    rw [List.take_succ_cons]
    unfold pathGo at h ⊢
    cases hx : instrR E i s with
    | ok t =>
      rw [hx] at h
      have := go_cut l t k h (by simpa using hk)
      simp only [this, List.take_succ_cons]
    | er e =>
      rw [hx] at h
      exact absurd h (instr_nz i s e hx)
theorem go_all {E : EnvP} {l : List Ins.Ins} {s : Stk} (h : (pathGo E l s).2 = 0) : (pathGo E l s).1.length = l.length + 1 := go_len l s ⟨_, Prod.ext rfl h⟩ instr_nz
/-- Each step of it. -/
theorem go_step {E : EnvP} : ∀ (l : List Ins.Ins) (s : Stk) (k : Nat) (i : Ins.Ins), (pathGo E l s).2 = 0 → l[k]? = some i → ∃ a b, (pathGo E l s).1[k]? = some a ∧ (pathGo E l s).1[k + 1]? = some b ∧ instrR E i a = .ok b
  | [], s, k, i, h, hi => by simp at hi
  | j :: l, s, 0, i, h, hi => by
    obtain rfl : j = i := by simpa using hi
    unfold pathGo at h ⊢
    cases hx : instrR E j s with
    | ok t =>
      refine ⟨s, t, rfl, ?_, hx⟩
      cases l with
      | nil => rfl
      | cons x l =>
        simp only [List.getElem?_cons_succ]
        unfold pathGo
        cases instrR E x t <;> rfl
    | er e =>
      rw [hx] at h
      exact absurd h (instr_nz j s e hx)
  | j :: l, s, k + 1, i, h, hi => by
    rw [List.getElem?_cons_succ] at hi
    unfold pathGo at h ⊢
    cases hx : instrR E j s with
    | ok t =>
      rw [hx] at h
      obtain ⟨a, b, h1, h2, h3⟩ := go_step l t k i h hi
      exact ⟨a, b, by rw [List.getElem?_cons_succ]; exact h1, by rw [List.getElem?_cons_succ]; exact h2, h3⟩
    | er e =>
      rw [hx] at h
      exact absurd h (instr_nz j s e hx)
end Go.Proofs.YtlappkflnlbfcaaGreatDoor.Chk
end

section
/- The program's Step. -/
namespace Go.Proofs.YtlappkflnlbfcaaGreatDoor.Chk
open Go.RowKit Row9 Stk
set_option maxRecDepth 100000
set_option maxHeartbeats 4000000
set_option linter.unusedVariables false
/-- How Step ends. -/
def StepEnds (w : World) (x : Rs) (e : Ending) (w' : World) : Prop :=
  (match x with
    | .ok s => ∃ v, e = .returned (.tuple #[v, .int .i64 0]) ∧ StIs elP w' v s
    | .er c => c ≠ 0 ∧ e = .returned (.tuple #[.agg #[.slice none 0 0, .slice none 0 0], .int .i64 c])) ∧ Below w.heap.size w w'
theorem stepR_sane {E : EnvP} {i : Ins.Ins} {s : Stk} (h : sane s = true) : stepR E i s = instrR E i s := by
  unfold stepR instrR
  rw [if_neg (by rw [h]; simp)]
theorem stepR_not {E : EnvP} {i : Ins.Ins} {s : Stk} (h : sane s = false) : stepR E i s = .er 1 := by
  unfold stepR
  rw [if_pos h]

theorem below_dr2 {B : Nat} {w w' : World} (h : Below B w w') : Below B w w'.drew := ⟨h.os, h.tape, h.output, h.size, h.block⟩
theorem step_any {w : World} {V : EV} {E : EnvP} {s : Stk} {v lab : Value} {i : Ins.Ins} (h0 : EnvOk elGP w V E) (hs : StIs elP w v s) (hbd : Bd (.ok s) 300000) (hK : Ins.KTab w) (hA : Ins.ATab w) (hF : FnBd E) (hl : Ins.SlI w lab i.L) (hu : Ints.u64R i.K) :
    Calls Tryz.prog 12 #[evV V E, v, .agg #[.int .i64 i.op, .int .i64 i.A, .int .i64 i.B, .int .u64 i.K, lab]] w (StepEnds w (stepR E i s)) := by
  obtain ⟨va, vc, lc, rfl, ha, hc, hm⟩ := id hs
  obtain ⟨Pa, ca, rfl, _⟩ := ha.form
  obtain ⟨Pc, cc, rfl, _⟩ := hc.form
  obtain ⟨Pl, cl, rfl, _⟩ := id hl
  obtain ⟨op, iA, iB, iK, iL⟩ := i
  simp only at hl hu
  have HB1 := Lib.hid (below4 w (.cells #[.slice V.Pt V.nt V.ct, .slice V.Pf V.nf V.cf, .int .i64 E.tables, .int .i64 E.mems, .slice V.Pg V.ng V.cg, .slice V.Pl V.nl V.cl, .slice V.Pr V.nr V.cr] 45) (.cells #[.slice Pa s.vals.length ca, .slice Pc lc.length cc] 39) (.cells #[.int .i64 op, .int .i64 iA, .int .i64 iB, .int .u64 iK, .slice Pl iL.length cl] 33) (.cells #[.slice none 0 0, .slice none 0 0] 39))
  have HX0 := Lib.hid (blk (blk (blk (heap_new w (.cells #[.slice V.Pt V.nt V.ct, .slice V.Pf V.nf V.cf, .int .i64 E.tables, .int .i64 E.mems, .slice V.Pg V.ng V.cg, .slice V.Pl V.nl V.cl, .slice V.Pr V.nr V.cr] 45)) (below_new _ (.cells #[.slice Pa s.vals.length ca, .slice Pc lc.length cc] 39))) (below_new _ (.cells #[.int .i64 op, .int .i64 iA, .int .i64 iB, .int .u64 iK, .slice Pl iL.length cl] 33))) (below_new _ (.cells #[.slice none 0 0, .slice none 0 0] 39)))
  have HX1 := Lib.hid (blk (blk (heap_new (w.alloc (.cells #[.slice V.Pt V.nt V.ct, .slice V.Pf V.nf V.cf, .int .i64 E.tables, .int .i64 E.mems, .slice V.Pg V.ng V.cg, .slice V.Pl V.nl V.cl, .slice V.Pr V.nr V.cr] 45)) (.cells #[.slice Pa s.vals.length ca, .slice Pc lc.length cc] 39)) (below_new _ (.cells #[.int .i64 op, .int .i64 iA, .int .i64 iB, .int .u64 iK, .slice Pl iL.length cl] 33))) (below_new _ (.cells #[.slice none 0 0, .slice none 0 0] 39)))
  have HX2 := Lib.hid (blk (heap_new ((w.alloc (.cells #[.slice V.Pt V.nt V.ct, .slice V.Pf V.nf V.cf, .int .i64 E.tables, .int .i64 E.mems, .slice V.Pg V.ng V.cg, .slice V.Pl V.nl V.cl, .slice V.Pr V.nr V.cr] 45)).alloc (.cells #[.slice Pa s.vals.length ca, .slice Pc lc.length cc] 39)) (.cells #[.int .i64 op, .int .i64 iA, .int .i64 iB, .int .u64 iK, .slice Pl iL.length cl] 33)) (below_new _ (.cells #[.slice none 0 0, .slice none 0 0] 39)))
  have HX3 := Lib.hid (heap_new (((w.alloc (.cells #[.slice V.Pt V.nt V.ct, .slice V.Pf V.nf V.cf, .int .i64 E.tables, .int .i64 E.mems, .slice V.Pg V.ng V.cg, .slice V.Pl V.nl V.cl, .slice V.Pr V.nr V.cr] 45)).alloc (.cells #[.slice Pa s.vals.length ca, .slice Pc lc.length cc] 39)).alloc (.cells #[.int .i64 op, .int .i64 iA, .int .i64 iB, .int .u64 iK, .slice Pl iL.length cl] 33)) (.cells #[.slice none 0 0, .slice none 0 0] 39))
  rw [size_new] at HX1
  rw [size_new, size_new] at HX2
  rw [size_new, size_new, size_new] at HX3
  have HSN := Lib.hid (Sane_st (hs.keep HB1.out))
  have HST := Lib.hid (hs.keep HB1.out)
  have HE0 := Lib.hid (h0.keep HB1.out)
  have HK0 := Lib.hid (hK.keep HB1.out)
  have HA0 := Lib.hid (hA.keep HB1.out)
  have HL0 := Lib.hid (hl.keep HB1.out)
  have HUK := Lib.hid hu
  have HFB := Lib.hid hF
  have HBI := Lib.hid hbd
  obtain ⟨b0, b1, b2, b3, b4, b5, b6⟩ := cells7 HX0.out
  obtain ⟨c0, c1⟩ : _ ∧ _ := ⟨(cells_at HX1.out 0).1, (cells_at HX1.out 1).1⟩
  obtain ⟨d0, d1, d2, d3, d4⟩ := cells5i HX2.out
  obtain ⟨r0, r1, f0, f1⟩ : _ ∧ _ ∧ _ ∧ _ := ⟨(cells_at HX3.out 0).1, (cells_at HX3.out 1).1, (cells_at HX3.out 0).2, (cells_at HX3.out 1).2⟩
  simp only [List.getElem?_toArray, List.getElem?_cons_zero, List.getElem?_cons_succ] at c0 c1 r0 r1
  clear h0 hs hbd hK hA hF hl hu ha hc hm
  show Calls _ _ #[.agg #[.slice V.Pt V.nt V.ct, .slice V.Pf V.nf V.cf, .int .i64 E.tables, .int .i64 E.mems, .slice V.Pg V.ng V.cg, .slice V.Pl V.nl V.cl, .slice V.Pr V.nr V.cr], .agg #[.slice Pa s.vals.length ca, .slice Pc lc.length cc], .agg #[.int .i64 op, .int .i64 iA, .int .i64 iB, .int .u64 iK, .slice Pl iL.length cl]] _ _
  obtain ⟨na, hna⟩ : ∃ n, s.vals.length = n := ⟨_, rfl⟩
  obtain ⟨nc, hnc⟩ : ∃ n, lc.length = n := ⟨_, rfl⟩
  obtain ⟨nl, hnl⟩ : ∃ n, iL.length = n := ⟨_, rfl⟩
  simp only [hna, hnc, hnl] at *
  obtain ⟨X, hX⟩ : ∃ X, stepR E ⟨op, iA, iB, iK, iL⟩ s = X := ⟨_, rfl⟩
  rw [hX]
  have HRX := Lib.hid hX
  clear hX hna hnc hnl
  go_enter Tryz.func12, Tryz.ntmps12
  go_wp2_with fail
  generalize ((((w.alloc (.cells #[.slice V.Pt V.nt V.ct, .slice V.Pf V.nf V.cf, .int .i64 E.tables, .int .i64 E.mems, .slice V.Pg V.ng V.cg, .slice V.Pl V.nl V.cl, .slice V.Pr V.nr V.cr] 45)).alloc (.cells #[.slice Pa na ca, .slice Pc nc cc] 39)).alloc (.cells #[.int .i64 op, .int .i64 iA, .int .i64 iB, .int .u64 iK, .slice Pl nl cl] 33)).alloc (.cells #[.slice none 0 0, .slice none 0 0] 39)) = W at *
  obtain ⟨y, hy⟩ : ∃ y, w.heap.size = y := ⟨_, rfl⟩
  rw [hy] at HX0 HX1 HX2 HX3
  simp only [hy]
  have HWY := Lib.hid hy
  clear hy
  refine HSN.out.mono ?_
  rintro e w1 ⟨rfl, hb⟩
  have HX0 := Lib.hid (blk HX0.out hb)
  have HX1 := Lib.hid (blk HX1.out hb)
  have HX2 := Lib.hid (blk HX2.out hb)
  have HX3 := Lib.hid (blk HX3.out hb)
  have HST := Lib.hid (HST.out.keep hb)
  have HE0 := Lib.hid (HE0.out.keep hb)
  have HK0 := Lib.hid (HK0.out.keep hb)
  have HA0 := Lib.hid (HA0.out.keep hb)
  have HL0 := Lib.hid (HL0.out.keep hb)
  have HB1 := Lib.hid (HB1.out.trans (hb.mono HB1.out.size))
  clear hb b0 b1 b2 b3 b4 b5 b6 c0 c1 d0 d1 d2 d3 d4 r0 r1 f0 f1 HSN
  obtain ⟨b0, b1, b2, b3, b4, b5, b6⟩ := cells7 HX0.out
  obtain ⟨c0, c1⟩ : _ ∧ _ := ⟨(cells_at HX1.out 0).1, (cells_at HX1.out 1).1⟩
  obtain ⟨r0, r1, f0, f1⟩ : _ ∧ _ ∧ _ ∧ _ := ⟨(cells_at HX3.out 0).1, (cells_at HX3.out 1).1, (cells_at HX3.out 0).2, (cells_at HX3.out 1).2⟩
  simp only [List.getElem?_toArray, List.getElem?_cons_zero, List.getElem?_cons_succ] at c0 c1 r0 r1
  cases hsn : sane s with
  | false =>
    rw [stepR_not hsn] at HRX
    obtain rfl := HRX.out
    clear hsn
    go_wp2_with fail
    have hby := HWY.out
    refine bodyPost_ret (v := .tuple #[.agg #[.slice none 0 0, .slice none 0 0], .int .i64 1]) ?_ rfl ⟨⟨by decide, rfl⟩, (HB1.out.setCell (p := ⟨y + 1 + 1 + 1, 0, none⟩) (by show w.heap.size ≤ y + 1 + 1 + 1; omega) _).setCell (p := ⟨y + 1 + 1 + 1, 1, none⟩) (by show w.heap.size ≤ y + 1 + 1 + 1; omega) _⟩
    have hx := set_heap (set_heap HX3.out (i := 0) (.slice none 0 0)) (i := 1) (.slice none 0 0)
    obtain ⟨q0, q1⟩ : _ ∧ _ := ⟨(cells_at hx 0).1, (cells_at hx 1).1⟩
    simp [results, Tryz.results12, go_sem, q0, q1]
  | true =>
    rw [stepR_sane hsn] at HRX
    clear hsn
    have HNK := Lib.hid (below_new w1 (ckObj V E (.slice Pa na ca) (.slice Pc nc cc) 0))
    have HCK : Hid (Cx (w1.alloc (ckObj V E (.slice Pa na ca) (.slice Pc nc cc) 0)) w1.heap.size V E (.ok s)) := Lib.hid ⟨⟨Pa, na, ca, Pc, nc, cc, heap_new _ _, fun s' h => by injection h with h; subst h; exact HST.out.keep HNK.out⟩, (fun e h => nomatch h), w1, HE0.out, Nat.le_refl _, HNK.out⟩
    obtain ⟨d0, d1, d2, d3, d4⟩ := cells5i HX2.out
    have dl := lt_of_heap HX2.out
    have HKY : Hid (y + 1 + 1 + 1 ≠ w1.heap.size) := Lib.hid (Nat.ne_of_lt (lt_of_heap HX3.out))
    have HX3 := Lib.hid (blk HX3.out HNK.out)
    have HLB : Hid (LabAt (w1.alloc (ckObj V E (.slice Pa na ca) (.slice Pc nc cc) 0)) w1.heap.size (.slice Pl nl cl) iL) := Lib.hid ⟨w1, HL0.out, Nat.le_refl _, HNK.out⟩
    go_wp2_with fail
    clear b0 b1 b2 b3 b4 b5 b6 c0 c1 d0 d1 d2 d3 d4 r0 r1 f0 f1 dl
    refine (take_ck (i := ⟨op, iA, iB, iK, iL⟩) HCK.out HBI.out HFB.out HLB.out HUK.out (HK0.out.keep HNK.out) (HA0.out.keep HNK.out)).mono ?_
    rintro e w2 ⟨rfl, hc, hbt⟩
    have HBW := Lib.hid (HB1.out.trans ((HNK.out.trans (hbt.below (Nat.le_refl _) HCK.out.lt)).mono HB1.out.size))
    have HX3 := Lib.hid ((hbt.block (y + 1 + 1 + 1) (lt_of_heap HX3.out) HKY.out).trans HX3.out)
    obtain ⟨r0, r1, f0, f1⟩ : _ ∧ _ ∧ _ ∧ _ := ⟨(cells_at HX3.out 0).1, (cells_at HX3.out 1).1, (cells_at HX3.out 0).2, (cells_at HX3.out 1).2⟩
    simp only [List.getElem?_toArray, List.getElem?_cons_zero, List.getElem?_cons_succ] at r0 r1
    rw [HRX.out] at hc
    clear hbt HNK HLB HCK HKY HRX
    generalize w1.heap.size = k at *
    cases X with
    | er ee =>
      obtain ⟨P, n1, c1, Q, m1, d1, hck, hz⟩ := hc.er
      have HNE := Lib.hid (hc.ne ee rfl)
      obtain ⟨c7, c8, c9, f7, f8, f9⟩ := cells10 hck
      clear hck hc
      go_wp2_with fail
      go_region
      all_goals (
        go_wp2_with fail
        have hby := HWY.out
        refine bodyPost_ret (v := .tuple #[.agg #[.slice none 0 0, .slice none 0 0], .int .i64 ee]) ?_ rfl ⟨⟨HNE.out, rfl⟩, below_dr2 ((HBW.out.setCell (p := ⟨y + 1 + 1 + 1, 0, none⟩) (by show w.heap.size ≤ y + 1 + 1 + 1; omega) _).setCell (p := ⟨y + 1 + 1 + 1, 1, none⟩) (by show w.heap.size ≤ y + 1 + 1 + 1; omega) _)⟩
        have hx : (((w2.setCell ⟨y + 1 + 1 + 1, 0, none⟩ (.slice none 0 0)).setCell ⟨y + 1 + 1 + 1, 1, none⟩ (.slice none 0 0)).drew).heap[y + 1 + 1 + 1]? = some (.cells #[.slice none 0 0, .slice none 0 0] 39 (0, 0)) := set_heap (set_heap HX3.out (i := 0) (.slice none 0 0)) (i := 1) (.slice none 0 0)
        obtain ⟨q0, q1⟩ : _ ∧ _ := ⟨(cells_at hx 0).1, (cells_at hx 1).1⟩
        simp [results, Tryz.results12, go_sem, q0, q1])
    | ok s2 =>
      obtain ⟨P, n1, c1, Q, m1, d1, hck, hst⟩ := hc.ok
      have HCX := Lib.hid hc
      have HSS := Lib.hid hst
      obtain ⟨c7, c8, c9, f7, f8, f9⟩ := cells10 hck
      clear hck hc hst
      go_wp2_with fail
      have hby := HWY.out
      have hbz : But (y + 1 + 1 + 1) w2 ((w2.setCell ⟨y + 1 + 1 + 1, 0, none⟩ (.slice P n1 c1)).setCell ⟨y + 1 + 1 + 1, 1, none⟩ (.slice Q m1 d1)) := ((But.refl _ w2).setCell 0 _).setCell 1 _
      have hnz : NoBB w2 (y + 1 + 1 + 1) := nobb_of HX3.out (by intro u hu; simp only [List.mem_cons, List.not_mem_nil, or_false] at hu; rcases hu with rfl | rfl <;> exact nop_slice _ _ _)
      refine bodyPost_ret (v := .tuple #[.agg #[.slice P n1 c1, .slice Q m1 d1], .int .i64 0]) ?_ rfl ⟨⟨_, rfl, StIs.apart (e := 72) (hi := infoP) HSS.out hnz hbz⟩, (HBW.out.setCell (p := ⟨y + 1 + 1 + 1, 0, none⟩) (by show w.heap.size ≤ y + 1 + 1 + 1; omega) _).setCell (p := ⟨y + 1 + 1 + 1, 1, none⟩) (by show w.heap.size ≤ y + 1 + 1 + 1; omega) _⟩
      have hx := set_heap (set_heap HX3.out (i := 0) (.slice P n1 c1)) (i := 1) (.slice Q m1 d1)
      obtain ⟨q0, q1⟩ : _ ∧ _ := ⟨(cells_at hx 0).1, (cells_at hx 1).1⟩
      simp [results, Tryz.results12, go_sem, q0, q1]
end Go.Proofs.YtlappkflnlbfcaaGreatDoor.Chk
end
