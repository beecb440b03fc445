/- ModRp, ModPR, ModPL, ModPList. -/
import Derived.Test.YtffegkjlgeblbaaGreatDoorPkModSFElem
import Derived.Test.YtffegkjlgeblbaaGreatDoorPkBodSaneP
import Derived.Test.YtffegkjlgeblbaaGreatDoorPkTypSame
import Derived.Test.YtffegkjlgeblbaaGreatDoorPkTypPutL
import Derived.Test.YtffegkjlgeblbaaGreatDoorPkUtfCame
import Derived.Test.YtffegkjlgeblbaaGreatDoorPkTypThere
import Derived.StillTailTactics
import Derived.WalkSmall
import Derived.Deep.RegionLaw
import Derived.Test.YtffegkjlgeblbaaGreatDoorPkModHi
section
/- The document's reader of modules, plain: what each of its parts makes of bytes, a place and an error. -/
namespace Go.Proofs.YtffegkjlgeblbaaGreatDoor.Mdl
open Go.RowKit Ints Typ Ins
set_option maxRecDepth 100000
set_option maxHeartbeats 1000000
set_option linter.unusedVariables false
def nx (a : Nat) (p : Int) : Nat := max a p.toNat
theorem nx_le {a n : Nat} {p : Int} (h : a ≤ n) (hp : p ≤ (n : Int)) : nx a p ≤ n := by unfold nx; omega
/-! Places stay within the bytes. -/
theorem vl_le (l : List Int) (a : Nat) : (vl l a).2.1 ≤ (l.length : Int) := by
  rcases bt_ways l a with ⟨_, h⟩ | ⟨k, hk, hlt, hb⟩
  · rw [vl_err (by omega)]
    simp
  · rw [hk, vl_in hlt]
    cases isV (l.getD k 0)
    · simp
    · show (k : Int) + 1 ≤ _
      omega
theorem rdl_at {l : List Int} {k n j : Nat} (h : Leb.rdl Leb.fitU 32 (l.drop k) 0 0 = .ok n j) : k + j / 7 ≤ l.length := by
  have h1 := Utf.rdl_len _ _ _ _ _ h
  have h2 := Typ.rdl_one _ _ _ _ _ h
  rw [List.length_drop] at h1
  omega
theorem lm_le (l : List Int) (a : Nat) : (lm l a).2.2.2.1 ≤ (l.length : Int) := by
  unfold lm
  rcases bt_ways l a with ⟨_, h⟩ | ⟨k, hk, hlt, hb⟩
  · rw [if_pos (by omega)]
    simp
  · have e : a = k := by omega
    subst e
    rw [hb, if_neg (by simp), Int.toNat_natCast]
    split
    · simp
    · unfold lm1
      split
      · rename_i n j hr
        have h1 := rdl_at hr
        split
        · show ((a + 1 + j / 7 : Nat) : Int) ≤ _
          omega
        · unfold lm2
          split
          · rename_i m j2 hr2
            have h2 := rdl_at hr2
            show ((a + 1 + j / 7 + j2 / 7 : Nat) : Int) ≤ _
            omega
          · simp
          · simp
      · simp
      · simp
def noIns : Ins := ⟨0, 0, 0, 0, []⟩
def rmanyM (m : Int) (l : List Int) (a : Nat) (e : Int) : Int × Nat × Int := (if rf (decide (m < (ru l a e).1)) (ru l a e).2.2 4 = 0 then (ru l a e).1 else 0, (ru l a e).2.1, rf (decide (m < (ru l a e).1)) (ru l a e).2.2 4)
noncomputable def rnmM (l : List Int) (a : Nat) (e : Int) : List Int × Nat × Int := if e ≠ 0 then ([], a, e) else ((Utf.nm l a).1, nx a (Utf.nm l a).2.1, (Utf.nm l a).2.2)
def rvalM (l : List Int) (a : Nat) (e : Int) : Int × Nat × Int := if e ≠ 0 then (0, a, e) else ((vl l a).1, nx a (vl l a).2.1, (vl l a).2.2)
def rlimM (l : List Int) (a : Nat) (e : Int) : LimT × Nat × Int := if e ≠ 0 then ((0, 0, false), a, e) else (((lm l a).1, (lm l a).2.1, (lm l a).2.2.1), nx a (lm l a).2.2.2.1, (lm l a).2.2.2.2)
def rtabM (l : List Int) (a : Nat) (e : Int) : LimT × Nat × Int := rlimM l (rb l a e).2.1 (rf ((rb l a e).1 != 112) (rb l a e).2.2 3)
def rflagM (m : Int) (l : List Int) (a : Nat) (e : Int) : Int × Nat × Int := ((rb l a e).1, (rb l a e).2.1, rf (decide (m < (rb l a e).1)) (rb l a e).2.2 3)
def rcodeM (l : List Int) (a : Nat) (e : Int) : List Ins × Nat × Int := if e ≠ 0 then ([], a, e) else ((Bod.drd l 4098 a [] []).1, nx a (Bod.drd l 4098 a [] []).2.1, (Bod.drd l 4098 a [] []).2.2)
def isX (op : Int) : Bool := op == 35 || op == 65 || op == 66
def exprE (L : List Ins) (a : Nat) (e : Int) : Ins × Nat × Int := if e ≠ 0 then (noIns, a, e) else if L.length = 1 ∧ isX (L.headD noIns).op = true then (L.headD noIns, a, 0) else (noIns, a, 5)
def rexprM (l : List Int) (a : Nat) (e : Int) : Ins × Nat × Int := exprE (rcodeM l a e).1 (rcodeM l a e).2.1 (rcodeM l a e).2.2
def rzeroM (l : List Int) (a : Nat) (e : Int) : Nat × Int := ((ru l a e).2.1, rf ((ru l a e).1 != 0) (ru l a e).2.2 5)
def impK (s t : ByteArray) (k : Int) (l : List Int) (a : Nat) (e : Int) : ImpT × Nat × Int :=
  if k = 0 then (⟨s, t, 0, (ru l a e).1, (0, 0, false), 0, false⟩, (ru l a e).2.1, (ru l a e).2.2)
  else if k = 1 then (⟨s, t, 1, 0, (rtabM l a e).1, 0, false⟩, (rtabM l a e).2.1, (rtabM l a e).2.2)
  else if k = 2 then (⟨s, t, 2, 0, (rlimM l a e).1, 0, false⟩, (rlimM l a e).2.1, (rlimM l a e).2.2)
  else if k = 3 then (⟨s, t, 3, 0, (0, 0, false), (rvalM l a e).1, (rflagM 1 l (rvalM l a e).2.1 (rvalM l a e).2.2).1 == 1⟩, (rflagM 1 l (rvalM l a e).2.1 (rvalM l a e).2.2).2.1, (rflagM 1 l (rvalM l a e).2.1 (rvalM l a e).2.2).2.2)
  else (⟨s, t, k, 0, (0, 0, false), 0, false⟩, a, e)
noncomputable def impNm (s : ByteArray) (l : List Int) (n : List Int × Nat × Int) : ImpT × Nat × Int := impK s (strOfNums n.1) (rflagM 3 l n.2.1 n.2.2).1 l (rflagM 3 l n.2.1 n.2.2).2.1 (rflagM 3 l n.2.1 n.2.2).2.2
noncomputable def rimpM (l : List Int) (a : Nat) (e : Int) : ImpT × Nat × Int := impNm (strOfNums (rnmM l a e).1) l (rnmM l (rnmM l a e).2.1 (rnmM l a e).2.2)
def bytesE (l : List Int) (n : Int) (a : Nat) (e : Int) : List Int × Nat × Int := if e ≠ 0 then ([], a, e) else ((l.drop a).take n.toNat, a + n.toNat, 0)
def rbytesM (l : List Int) (a : Nat) (e : Int) : List Int × Nat × Int := bytesE l (ru l a e).1 (ru l a e).2.1 (rf (decide ((l.length : Int) - ((ru l a e).2.1 : Int) < (ru l a e).1)) (ru l a e).2.2 2)
def rleftM (l : List Int) (a : Nat) (e : Int) : Int := rf (decide ((a : Int) < (l.length : Int))) e 3
def locsM (l : List Int) : Nat → Nat → Int → List Int → List Int × Nat × Int
  | 0, a, e, out => (out, a, e)
  | n + 1, a, e, out => if e ≠ 0 then (out, a, e) else
    locsM l n (rvalM l (ru l a e).2.1 (ru l a e).2.2).2.1 (rf (decide (64 - (out.length : Int) < (ru l a e).1)) (rvalM l (ru l a e).2.1 (ru l a e).2.2).2.2 4)
      (if rf (decide (64 - (out.length : Int) < (ru l a e).1)) (rvalM l (ru l a e).2.1 (ru l a e).2.2).2.2 4 = 0 then out ++ List.replicate (ru l a e).1.toNat (rvalM l (ru l a e).2.1 (ru l a e).2.2).1 else out)
def codeE (b L : List Int) (a : Nat) (e : Int) (n : Nat) : (List Int × List Ins) × Nat × Int := ((L, (rcodeM b a e).1), n, rleftM b (rcodeM b a e).2.1 (rcodeM b a e).2.2)
def funE (b : List Int) (n : Nat) (x : Int × Nat × Int) : (List Int × List Ins) × Nat × Int := codeE b (locsM b x.1.toNat x.2.1 x.2.2 []).1 (locsM b x.1.toNat x.2.1 x.2.2 []).2.1 (locsM b x.1.toNat x.2.1 x.2.2 []).2.2 n
def rfuncM (l : List Int) (a : Nat) (e : Int) : (List Int × List Ins) × Nat × Int := if (rbytesM l a e).2.2 ≠ 0 then (([], []), (rbytesM l a e).2.1, (rbytesM l a e).2.2) else funE (rbytesM l a e).1 (rbytesM l a e).2.1 (rmanyM 64 (rbytesM l a e).1 0 0)
def numsM (l : List Int) : Nat → Nat → Int → List Int → List Int × Nat × Int
  | 0, a, e, out => (out, a, e)
  | n + 1, a, e, out => numsM l n (ru l a e).2.1 (ru l a e).2.2 (out ++ [(ru l a e).1])
def rnumsM (m : Int) (l : List Int) (a : Nat) (e : Int) : List Int × Nat × Int := numsM l (rmanyM m l a e).1.toNat (rmanyM m l a e).2.1 (rmanyM m l a e).2.2 []
def loopM {α : Type} (f : Nat → Int → α × Nat × Int) : Nat → Nat → Int → List α → List α × Nat × Int
  | 0, a, e, out => (out, a, e)
  | n + 1, a, e, out => if e ≠ 0 then (out, a, e) else loopM f n (f a e).2.1 (f a e).2.2 (out ++ [(f a e).1])
def manyM {α : Type} (m : Int) (f : List Int → Nat → Int → α × Nat × Int) (l : List Int) (a : Nat) (e : Int) : List α × Nat × Int := loopM (f l) (rmanyM m l a e).1.toNat (rmanyM m l a e).2.1 (rmanyM m l a e).2.2 []
def rtypM (l : List Int) (a : Nat) (_ : Int) : (List Int × List Int) × Nat × Int := (((fn l a).1, (fn l a).2.1), nx a (fn l a).2.2.1, (fn l a).2.2.2)
def glbE (v : Int) (l : List Int) (f : Int × Nat × Int) : (Int × Bool × Ins) × Nat × Int := ((v, f.1 == 1, (rexprM l f.2.1 f.2.2).1), (rexprM l f.2.1 f.2.2).2.1, (rexprM l f.2.1 f.2.2).2.2)
def rglbM (l : List Int) (a : Nat) (e : Int) : (Int × Bool × Ins) × Nat × Int := glbE (rvalM l a e).1 l (rflagM 1 l (rvalM l a e).2.1 (rvalM l a e).2.2)
noncomputable def expE (s : ByteArray) (l : List Int) (k : Int × Nat × Int) : ExpT × Nat × Int := ((s, k.1, (ru l k.2.1 k.2.2).1), (ru l k.2.1 k.2.2).2.1, (ru l k.2.1 k.2.2).2.2)
noncomputable def rexpM (l : List Int) (a : Nat) (e : Int) : ExpT × Nat × Int := expE (strOfNums (rnmM l a e).1) l (rflagM 3 l (rnmM l a e).2.1 (rnmM l a e).2.2)
def elmE (l : List Int) (x : Ins × Nat × Int) : (Ins × List Int) × Nat × Int := ((x.1, (rnumsM 256 l x.2.1 x.2.2).1), (rnumsM 256 l x.2.1 x.2.2).2.1, (rnumsM 256 l x.2.1 x.2.2).2.2)
def relmM (l : List Int) (a : Nat) (e : Int) : (Ins × List Int) × Nat × Int := elmE l (rexprM l (rzeroM l a e).1 (rzeroM l a e).2)
def datE (l : List Int) (x : Ins × Nat × Int) : (Ins × List Int) × Nat × Int := ((x.1, (rbytesM l x.2.1 x.2.2).1), (rbytesM l x.2.1 x.2.2).2.1, (rbytesM l x.2.1 x.2.2).2.2)
def rdatM (l : List Int) (a : Nat) (e : Int) : (Ins × List Int) × Nat × Int := datE l (rexprM l (rzeroM l a e).1 (rzeroM l a e).2)
structure PMod where
  types : List (List Int × List Int)
  imps : List ImpT
  funcs : List Int
  tabs : List LimT
  mems : List LimT
  globs : List (Int × Bool × Ins)
  exps : List ExpT
  start : Int
  elems : List (Ins × List Int)
  codes : List (List Int × List Ins)
  datas : List (Ins × List Int)
def noMod (s : Int) : PMod := ⟨[], [], [], [], [], [], [], s, [], [], []⟩
noncomputable def decEnd (x : PMod × Int) : PMod × Int := if x.2 ≠ 0 then x else if x.1.codes.length ≠ x.1.funcs.length then (noMod 0, 3) else x
end Go.Proofs.YtffegkjlgeblbaaGreatDoor.Mdl
end

section
/- The program's reader of modules: how it ends all, and its small parts. -/
namespace Go.Proofs.YtffegkjlgeblbaaGreatDoor.Mdl
open Go.RowKit Ints Typ Ins
set_option maxRecDepth 100000
set_option maxHeartbeats 4000000
set_option linter.unusedVariables false
def flt (e : Int) : List PanicEntry := [{ v := .iface 125 (.agg #[.int .i64 e]), recovered := false }]
theorem bodyPost_pan {P : Program} {fn : Func} {R : Ending → World → Prop} {a : Act} {w : World} {ch : List PanicEntry} (hd : a.defers = []) (hR : R (.panicked ch) w) : bodyPost P fn R (.panic ch) a w := ⟨hd, hR⟩
theorem need_ok (e : Int) (w : World) : Calls Tryz.prog 73 #[.bool true, .int .i64 e] w fun en w' => en = .returned (.tuple #[]) ∧ w' = w := by
  go_enter Tryz.func73, Tryz.ntmps73
  go_wp2_with fail
  refine bodyPost_end (v := .tuple #[]) (by simp [results, Tryz.results73, go_sem]) rfl ?_
  exact ⟨rfl, rfl⟩
theorem need_no (e : Int) (w : World) : Calls Tryz.prog 73 #[.bool false, .int .i64 e] w fun en w' => en = .panicked (flt e) ∧ w' = w := by
  unfold flt
  go_enter Tryz.func73, Tryz.ntmps73
  go_wp2_with fail
  exact bodyPost_pan rfl ⟨rfl, rfl⟩
theorem must_ok (w : World) : Calls Tryz.prog 70 #[.int .i64 0] w fun en w' => en = .returned (.tuple #[]) ∧ w' = w := by
  go_enter Tryz.func70, Tryz.ntmps70
  go_wp2_with fail
  refine (need_ok 0 w).mono ?_
  rintro en w1 ⟨rfl, rfl⟩
  go_wp2_with fail
  refine bodyPost_end (v := .tuple #[]) (by simp [results, Tryz.results70, go_sem]) rfl ?_
  exact ⟨rfl, rfl⟩
theorem must_no (e : Int) (he : e ≠ 0) (w : World) : Calls Tryz.prog 70 #[.int .i64 e] w fun en w' => en = .panicked (flt e) ∧ w' = w := by
  have t1 : (e == 0) = false := by simpa using he
  clear he
  go_enter Tryz.func70, Tryz.ntmps70
  go_wp2_with fail
  refine (need_no e w).mono ?_
  rintro en w1 ⟨rfl, rfl⟩
  exact bodyPost_pan rfl ⟨rfl, rfl⟩
structure PAt (w : World) (g : Nat) (v : Value) (at_ : Int) : Prop where
  lt : g < w.heap.size
  c0 : w.cell? ⟨g, 0, none⟩ = some v
  c1 : w.cell? ⟨g, 1, none⟩ = some (.int .i64 at_)
  f0 : w.frozen? ⟨g, 0, none⟩ = false
  f1 : w.frozen? ⟨g, 1, none⟩ = false
theorem PAt.keep {w w' : World} {g : Nat} {v : Value} {a : Int} (h : PAt w g v a) (hb : Below w.heap.size w w') : PAt w' g v a :=
  ⟨Nat.lt_of_lt_of_le h.lt hb.size, by rw [hb.cell (p := ⟨g, 0, none⟩) h.lt]; exact h.c0, by rw [hb.cell (p := ⟨g, 1, none⟩) h.lt]; exact h.c1,
    by rw [hb.frozen (p := ⟨g, 0, none⟩) h.lt]; exact h.f0, by rw [hb.frozen (p := ⟨g, 1, none⟩) h.lt]; exact h.f1⟩
theorem PAt.set1 {w : World} {g : Nat} {v : Value} {a : Int} (h : PAt w g v a) (x : Int) : PAt (w.setCell ⟨g, 1, none⟩ (.int .i64 x)) g v x := by
  obtain ⟨h0, c0, c1, f0, f1⟩ := h
  exact ⟨by simp [World.setCell]; exact h0, by rw [World.cell?_setCell_other (h := by simp)]; exact c0, by apply World.cell?_setCell_same; exact c1, by rw [World.frozen?_setCell]; exact f0, by rw [World.frozen?_setCell]; exact f1⟩
theorem below_drew1 (w : World) : Below w.heap.size w w.drew := ⟨rfl, rfl, rfl, Nat.le_refl _, fun _ _ => rfl⟩
structure PRd (w0 : World) (v : Value) (l : List Int) (g : Nat) (w : World) (at_ : Nat) : Prop where
  sl : Sl w0 v l
  by_ : ∀ x ∈ l, 0 ≤ x ∧ x < 256
  len : l.length ≤ 1000000
  at_le : at_ ≤ l.length
  base : w0.heap.size ≤ g
  below : Below w0.heap.size w0 w
  rd : PAt w g v (at_ : Int)
theorem PRd.turn {w0 w w' : World} {v : Value} {l : List Int} {g a a' : Nat} (h : PRd w0 v l g w a) (hr : PAt w' g v (a' : Int)) (hb : But g w w') (ha : a' ≤ l.length) : PRd w0 v l g w' a' :=
  ⟨h.sl, h.by_, h.len, ha, h.base, h.below.trans (hb.below h.base h.rd.lt), hr⟩
theorem PRd.bytes {w0 w : World} {v : Value} {l : List Int} {g a : Nat} (h : PRd w0 v l g w a) : Sl w v l := h.sl.keep h.below
def PTurn (v : Value) (g : Nat) (x : Value) (a : Nat) (e : Int) (w : World) (en : Ending) (w' : World) : Prop :=
  (e = 0 ∧ en = .returned x ∧ PAt w' g v (a : Int) ∨ e ≠ 0 ∧ en = .panicked (flt e)) ∧ But g w w'
theorem PTurn.yes {v x : Value} {g a : Nat} {w w' : World} (h : PAt w' g v (a : Int)) (hb : But g w w') : PTurn v g x a 0 w (.returned x) w' := ⟨.inl ⟨rfl, rfl, h⟩, hb⟩
theorem PTurn.no {v x : Value} {g a : Nat} {e : Int} {w w' : World} (he : e ≠ 0) (hb : But g w w') : PTurn v g x a e w (.panicked (flt e)) w' := ⟨.inr ⟨he, rfl⟩, hb⟩
theorem PTurn.ways {v x : Value} {g a : Nat} {e : Int} {w w' : World} {en : Ending} (h : PTurn v g x a e w en w') : (e = 0 ∧ en = .returned x ∧ PAt w' g v (a : Int) ∧ But g w w') ∨ (e ≠ 0 ∧ en = .panicked (flt e) ∧ But g w w') := by
  obtain ⟨⟨h1, h2, h3⟩ | ⟨h1, h2⟩, hb⟩ := h
  · exact .inl ⟨h1, h2, h3, hb⟩
  · exact .inr ⟨h1, h2, hb⟩
end Go.Proofs.YtffegkjlgeblbaaGreatDoor.Mdl
end

section
/- The program's reader of modules: numbers, limits. -/
namespace Go.Proofs.YtffegkjlgeblbaaGreatDoor.Mdl
open Go.RowKit Ints Typ Ins
set_option maxRecDepth 100000
set_option maxHeartbeats 4000000
set_option linter.unusedVariables false
theorem mrun_f0 (g : Nat) (W : World) : (Instr.fieldAt 129 (.pointer (some ⟨g, 0, none⟩)) 0).run Tryz.prog W = .ok (.pointer (some ⟨g, 0, none⟩)) W := by go_simp
theorem mrun_f1 (g : Nat) (W : World) : (Instr.fieldAt 129 (.pointer (some ⟨g, 0, none⟩)) 1).run Tryz.prog W = .ok (.pointer (some ⟨g, 1, none⟩)) W := by go_simp
def PEnds (g : Nat) (v x : Value) (p E : Int) (w : World) (en : Ending) (w' : World) : Prop := (E = 0 ∧ en = .returned x ∧ PAt w' g v p ∨ E ≠ 0 ∧ en = .panicked (flt E)) ∧ But g w w'
theorem mnum_core (g : Nat) (A : Option Addr) (n c : Nat) (a x p E : Int) (w : World) (hR : PAt w g (.slice A n c) a)
    (h : ∀ W, Below w.heap.size w W → Calls Tryz.prog 111 #[.slice A n c, .int .i64 a, .int .i64 32] W (fun en w' => en = .returned (.tuple #[.int .u64 x, .int .i64 p, .int .i64 E]) ∧ Below W.heap.size W w')) (hx : IntKind.i64.wrap x = x) :
    Calls Tryz.prog 122 #[.pointer (some ⟨g, 0, none⟩)] w (PEnds g (.slice A n c) (.int .i64 x) p E w) := by
  have HR := Lib.hid hR
  have H := Lib.hid h
  obtain ⟨h0, c0, c1, f0, f1⟩ := hR
  clear h
  go_enter Tryz.func122, Tryz.ntmps122
  go_wp2_with fail
  refine Stab.region 27 [.is (.pointer (some ⟨g, 0, none⟩)), .is (.pointer (some ⟨g, 0, none⟩)), .is (.pointer (some ⟨g, 0, none⟩)), .is (.slice A n c), .is (.pointer (some ⟨g, 0, none⟩)), .is (.pointer (some ⟨g, 0, none⟩)), .is (.pointer (some ⟨g, 1, none⟩)), .is (.int .i64 a),
    .is (.tuple #[.int .u64 x, .int .i64 p, .int .i64 E]), .is (.tuple #[.int .u64 x, .int .i64 p, .int .i64 E]), .is (.int .u64 x), .is (.int .i64 p), .is (.int .i64 E), .is (.int .u64 x), .is (.int .i64 p), .is (.int .i64 E)] (by kernel_rfl) (by kernel_rfl) rfl rfl ?_ ?_
  · with_reducible refine Stab.steps_cons ?_ ?_ ?_
    · exact Stab.owes_move rfl rfl rfl
    · exact trivial
    with_reducible refine Stab.steps_cons ?_ ?_ ?_
    · exact Stab.owes_nil rfl rfl rfl
    · exact trivial
    with_reducible refine Stab.steps_cons ?_ ?_ ?_
    · exact Stab.owes_fieldAt rfl rfl (fun W => mrun_f0 g W) rfl
    · exact trivial
    with_reducible refine Stab.steps_cons ?_ ?_ ?_
    · exact Stab.owes_load rfl (fun v W hb hv => by subst hv; exact run_ld _ _ _ _ _ W (HR.out.keep hb).c0) rfl
    · exact trivial
    with_reducible refine Stab.steps_cons ?_ ?_ ?_
    · exact Stab.owes_move rfl rfl rfl
    · exact trivial
    with_reducible refine Stab.steps_cons ?_ ?_ ?_
    · exact Stab.owes_nil rfl rfl rfl
    · exact trivial
    with_reducible refine Stab.steps_cons ?_ ?_ ?_
    · exact Stab.owes_fieldAt rfl rfl (fun W => mrun_f1 g W) rfl
    · exact trivial
    with_reducible refine Stab.steps_cons ?_ ?_ ?_
    · exact Stab.owes_load rfl (fun v W hb hv => by subst hv; exact run_li _ _ _ W (HR.out.keep hb).c1) rfl
    · exact trivial
    with_reducible refine Stab.steps_cons ?_ ?_ ?_
    · (refine Stab.owes_call Tryz.func111 (by kernel_rfl) (by kernel_rfl) rfl (fun vs W hb hall => ?_) rfl; obtain ⟨_, _, rfl, rfl, _, _, rfl, rfl, _, _, rfl, rfl, rfl⟩ := hall; refine (H.out W hb).mono ?_; rintro e w2 ⟨rfl, hb2⟩; exact ⟨_, rfl, hb2, rfl⟩)
    · exact trivial
    with_reducible refine Stab.steps_cons ?_ ?_ ?_
    · exact Stab.owes_move rfl rfl rfl
    · exact trivial
    with_reducible refine Stab.steps_cons ?_ ?_ ?_
    · exact Stab.owes_extract rfl rfl (fun W => Stab.ext0 W) rfl
    · exact trivial
    with_reducible refine Stab.steps_cons ?_ ?_ ?_
    · exact Stab.owes_extract rfl rfl (fun W => Stab.ext1 W) rfl
    · exact trivial
    with_reducible refine Stab.steps_cons ?_ ?_ ?_
    · exact Stab.owes_extract rfl rfl (fun W => Stab.ext2 W) rfl
    · exact trivial
    with_reducible refine Stab.steps_cons ?_ ?_ ?_
    · exact Stab.owes_assign rfl rfl rfl
    · exact trivial
    with_reducible refine Stab.steps_cons ?_ ?_ ?_
    · exact Stab.owes_assign rfl rfl rfl
    · exact trivial
    with_reducible refine Stab.steps_cons ?_ ?_ ?_
    · exact Stab.owes_assign rfl rfl rfl
    · exact trivial
    exact Stab.steps_nil
  · intro W hb _
    simp only [Act.put, List.setIfInBounds_toArray, List.set_cons_succ, List.set_cons_zero]
    have HRW := Lib.hid (HR.out.keep hb)
    have HB := Lib.hid hb
    clear hb h0 c0 c1 f0 f1
    by_cases hE : E = 0
    · subst hE
      obtain ⟨h0, c0, c1, f0, f1⟩ := HRW.out
      go_wp2_with fail
      refine (must_ok W).mono ?_
      rintro en w1 ⟨rfl, rfl⟩
      go_wp2_with fail
      go_ret
      exact ⟨.inl ⟨rfl, rfl, HRW.out.set1 _⟩, (But.of_below HB.out).setCell (p := ⟨g, 1, none⟩) rfl _⟩
    · have HE := Lib.hid hE
      clear hE
      go_wp2_with fail
      refine (must_no E HE.out W).mono ?_
      rintro en w1 ⟨rfl, rfl⟩
      exact bodyPost_pan rfl ⟨.inr ⟨HE.out, rfl⟩, But.of_below HB.out⟩
theorem pnum_m {w0 w : World} {v : Value} {l : List Int} {g a : Nat} (h : PRd w0 v l g w a) :
    Calls Tryz.prog 122 #[.pointer (some ⟨g, 0, none⟩)] w (PTurn v g (.int .i64 (ru l a 0).1) (ru l a 0).2.1 (ru l a 0).2.2 w) := by
  have hsl := h.bytes
  obtain ⟨A, c, hv, _⟩ := id hsl
  subst hv
  have hR : ∀ W, Below w.heap.size w W → Calls Tryz.prog 111 #[.slice A l.length c, .int .i64 (a : Int), .int .i64 32] W _ := fun W hW => Leb.ReadU_is A c 32 a l W (hsl.keep hW).leb h.len (by255 h.by_) (by omega) (by omega) h.at_le
  unfold ru
  rw [if_neg (by simp)]
  cases hr : Leb.rdl Leb.fitU 32 (l.drop a) 0 0 with
  | short => rw [hr] at hR; exact (mnum_core g A _ c a _ _ _ w h.rd hR (by decide)).mono fun e w' k => ⟨.inr ⟨(by decide : (2 : Int) ≠ 0), (k.1.resolve_left (fun h => absurd h.1 (by decide))).2⟩, k.2⟩
  | form => rw [hr] at hR; exact (mnum_core g A _ c a _ _ _ w h.rd hR (by decide)).mono fun e w' k => ⟨.inr ⟨(by decide : (3 : Int) ≠ 0), (k.1.resolve_left (fun h => absurd h.1 (by decide))).2⟩, k.2⟩
  | ok n m =>
    rw [hr] at hR
    have hn := (rdl32 (fun x hx => h.by_ x (List.mem_of_mem_drop hx)) hr).1
    exact (mnum_core g A _ c a (n : Int) ((a + m / 7 : Nat) : Int) 0 w h.rd hR (IntWalk.i64_in _ (by omega))).mono fun e w' k => k
theorem pcnt_m {w0 w : World} {v : Value} {l : List Int} {g a : Nat} (m : Int) (h : PRd w0 v l g w a) :
    Calls Tryz.prog 173 #[.pointer (some ⟨g, 0, none⟩), .int .i64 m] w (PTurn v g (.int .i64 (ru l a 0).1) (ru l a 0).2.1 (rf (decide (m < (ru l a 0).1)) (ru l a 0).2.2 4) w) := by
  have HN := Lib.hid (pnum_m h)
  clear h
  generalize ru l a 0 = q at *
  obtain ⟨x, a1, e1⟩ := q
  simp only at HN ⊢
  go_enter Tryz.func173, Tryz.ntmps173
  go_wp2_with fail
  refine HN.out.mono ?_
  intro en w1 hq
  rcases hq.ways with ⟨he, rfl, hr, hb⟩ | ⟨he, rfl, hb⟩
  · subst he
    have HR := Lib.hid hr
    have HB := Lib.hid hb
    clear hq hr hb
    by_cases hm : m < x
    · have t1 : decide (x ≤ m) = false := decide_eq_false (by omega)
      have t2 : Hid (rf (decide (m < x)) 0 4 = 4) := Lib.hid (by rw [decide_eq_true hm]; rfl)
      clear hm
      go_wp2_with fail
      refine (need_no 4 w1).mono ?_
      rintro en w2 ⟨rfl, rfl⟩
      exact bodyPost_pan rfl (by rw [t2.out]; exact PTurn.no (by decide) HB.out)
    · have t1 : decide (x ≤ m) = true := decide_eq_true (by omega)
      have t2 : Hid (rf (decide (m < x)) 0 4 = 0) := Lib.hid (by rw [decide_eq_false hm]; rfl)
      clear hm
      go_wp2_with fail
      refine (need_ok 4 w1).mono ?_
      rintro en w2 ⟨rfl, rfl⟩
      go_wp2_with fail
      exact bodyPost_ret (v := .int .i64 x) (by simp [results, Tryz.results173, go_sem]) rfl (by rw [t2.out]; exact PTurn.yes HR.out HB.out)
  · have t2 : Hid (rf (decide (m < x)) e1 4 = e1) := Lib.hid (by unfold rf; cases decide (m < x) <;> simp [he])
    exact bodyPost_pan rfl (by rw [t2.out]; exact PTurn.no he hb)
def PStill (e : Int) (w : World) (en : Ending) (w' : World) : Prop := (e = 0 ∧ en = .returned (.tuple #[]) ∨ e ≠ 0 ∧ en = .panicked (flt e)) ∧ Below w.heap.size w w'
theorem pend_m {w0 w : World} {v : Value} {l : List Int} {g a : Nat} (h : PRd w0 v l g w a) :
    Calls Tryz.prog 72 #[.pointer (some ⟨g, 0, none⟩)] w (PStill (rleftM l a 0) w) := by
  obtain ⟨A, c, hv, _⟩ := id h.bytes
  subst hv
  have HR := Lib.hid h.rd
  have HB := Lib.hid (below_drew1 w)
  have HR2 := Lib.hid (HR.out.keep HB.out)
  have hle := h.at_le
  obtain ⟨h0, c0, c1, f0, f1⟩ := h.rd
  clear h
  unfold rleftM
  obtain ⟨n, hn⟩ : ∃ n, l.length = n := ⟨_, rfl⟩
  rw [hn] at hle HR HR2 c0 ⊢
  clear hn
  obtain ⟨E, hE⟩ : ∃ E, rf (decide ((a : Int) < (n : Int))) 0 3 = E := ⟨_, rfl⟩
  rw [hE]
  by_cases hlt : a < n
  · have t1 : ((a : Int) == (n : Int)) = false := by simp; omega
    have t2 : (a == n) = false := by simp; omega
    have t3 : Hid (E = 3) := Lib.hid (by rw [← hE, decide_eq_true (by omega)]; rfl)
    clear hlt hle hE
    go_enter Tryz.func72, Tryz.ntmps72
    go_wp2_with fail
    go_still_tail 10, (by kernel_rfl)
    change wpList _ _ _ _ _ w.drew
    obtain ⟨w2, hw2⟩ : ∃ x, w.drew = x := ⟨_, rfl⟩
    rw [hw2] at HB HR2 ⊢
    clear hw2 c0 c1 f0 f1
    go_wp2_with fail
    refine (need_no 3 w2).mono ?_
    rintro en w1 ⟨rfl, rfl⟩
    exact bodyPost_pan rfl (by rw [t3.out]; exact ⟨.inr ⟨by decide, rfl⟩, HB.out⟩)
  · have t1 : ((a : Int) == (n : Int)) = true := by simp; omega
    have t2 : (a == n) = true := by simp; omega
    have t3 : Hid (E = 0) := Lib.hid (by rw [← hE, decide_eq_false (by omega)]; rfl)
    clear hlt hle hE
    go_enter Tryz.func72, Tryz.ntmps72
    go_wp2_with fail
    go_still_tail 10, (by kernel_rfl)
    change wpList _ _ _ _ _ w.drew
    obtain ⟨w2, hw2⟩ : ∃ x, w.drew = x := ⟨_, rfl⟩
    rw [hw2] at HB HR2 ⊢
    clear hw2 c0 c1 f0 f1
    go_wp2_with fail
    refine (need_ok 3 w2).mono ?_
    rintro en w1 ⟨rfl, rfl⟩
    go_wp2_with fail
    refine bodyPost_end (v := .tuple #[]) (by simp [results, Tryz.results72, go_sem]) rfl ?_
    rw [t3.out]
    exact ⟨.inl ⟨rfl, rfl⟩, HB.out⟩
end Go.Proofs.YtffegkjlgeblbaaGreatDoor.Mdl
end

section
/- The program's lists of modules' parts, read: walked. -/
namespace Go.Proofs.YtffegkjlgeblbaaGreatDoor.Mdl
open Go.RowKit Ints Typ Ins
set_option maxRecDepth 100000
set_option maxHeartbeats 4000000
set_option linter.unusedVariables false
theorem loopM_err {α : Type} (f : Nat → Int → α × Nat × Int) : ∀ (n a : Nat) (e : Int) (out : List α), e ≠ 0 → loopM f n a e out = (out, a, e)
  | 0, _, _, _, _ => rfl
  | n + 1, a, e, out, h => by unfold loopM; rw [if_pos h]
theorem loopM_ok {α : Type} (f : Nat → Int → α × Nat × Int) (n a : Nat) (out : List α) : loopM f (n + 1) a 0 out = loopM f n (f a 0).2.1 (f a 0).2.2 (out ++ [(f a 0).1]) := by
  rw [loopM, if_neg (by simp)]
def LTold {α β : Type} (T : RowG.El α) (pl : α → β) (v : Value) (g : Nat) (q : List β × Nat × Int) (w : World) (en : Ending) (w' : World) : Prop :=
  (q.2.2 = 0 ∧ (∃ u l, en = .returned u ∧ RowG.Own T w' w.heap.size u l ∧ (∀ p ∈ l, Hi w.heap.size T.e w' (fun W => T.ok W p)) ∧ l.map pl = q.1) ∧ PAt w' g v (q.2.1 : Int) ∨ q.2.2 ≠ 0 ∧ en = .panicked (flt q.2.2)) ∧ But g w w'
def OneTold {α β : Type} (T : RowG.El α) (pl : α → β) (v : Value) (g : Nat) (q : β × Nat × Int) (val : α → Value) (w : World) (en : Ending) (w' : World) : Prop :=
  (q.2.2 = 0 ∧ (∃ p, en = .returned (val p) ∧ Hi w.heap.size T.e w' (fun W => T.ok W p) ∧ pl p = q.1) ∧ PAt w' g v (q.2.1 : Int) ∨ q.2.2 ≠ 0 ∧ en = .panicked (flt q.2.2)) ∧ But g w w'
theorem OneTold.ways {α β : Type} {T : RowG.El α} {pl : α → β} {v : Value} {g : Nat} {q : β × Nat × Int} {val : α → Value} {w w' : World} {en : Ending} (h : OneTold T pl v g q val w en w') :
    (∃ p, q.2.2 = 0 ∧ en = .returned (val p) ∧ Hi w.heap.size T.e w' (fun W => T.ok W p) ∧ pl p = q.1 ∧ PAt w' g v (q.2.1 : Int) ∧ But g w w') ∨ (q.2.2 ≠ 0 ∧ en = .panicked (flt q.2.2) ∧ But g w w') := by
  obtain ⟨⟨h1, ⟨p, h2, h3, h4⟩, h5⟩ | ⟨h1, h2⟩, hb⟩ := h
  · exact .inl ⟨p, h1, h2, h3, h4, h5, hb⟩
  · exact .inr ⟨h1, h2, hb⟩
theorem own_but {α : Type} {T : RowG.El α} {w w' : World} {B g : Nat} {v : Value} {l : List α} (h : RowG.Own T w B v l) (hb : But g w w') (hg : g < B) : RowG.Own T w' B v l := by
  obtain ⟨h1, h2⟩ := h
  refine ⟨h1, ?_⟩
  rcases h2 with h2 | ⟨g', cap, cur, hv, hB, hc, hr⟩
  · exact .inl h2
  · exact .inr ⟨g', cap, cur, hv, hB, by rw [hb.block g' (Array.getElem?_eq_some_iff.1 hc).1 (by omega)]; exact hc, hr⟩
theorem new_at {α : Type} (T : RowG.El α) (w : World) (p : α) : RowG.At T (w.alloc (.cells (T.enc p).toArray T.e)) w.heap.size 0 p := by
  intro i u hu
  rw [Nat.zero_add, (Sec.cells_at (Sec.heap_new w _) i).1]
  simpa using hu
theorem PRd.low {w0 w w' : World} {v : Value} {l : List Int} {g a B : Nat} (h : PRd w0 v l g w a) (hb : Below B w w') (hg : g < B) : PRd w0 v l g w' a := by
  obtain ⟨h1, h2, h3, h4, h5, h6, q0, q1, q2, q3, q4⟩ := h
  exact ⟨h1, h2, h3, h4, h5, h6.trans (hb.mono (by omega)), Nat.lt_of_lt_of_le q0 hb.size, by rw [hb.cell (p := ⟨g, 0, none⟩) hg]; exact q1, by rw [hb.cell (p := ⟨g, 1, none⟩) hg]; exact q2, by rw [hb.frozen (p := ⟨g, 0, none⟩) hg]; exact q3, by rw [hb.frozen (p := ⟨g, 1, none⟩) hg]; exact q4⟩
theorem but_low {g : Nat} {w w1 w2 : World} (h : But g w w1) (hb : Below w.heap.size w1 w2) : But g w w2 :=
  ⟨hb.os.trans h.os, hb.tape.trans h.tape, hb.output.trans h.output, Nat.le_trans h.size hb.size, fun k hk hn => (hb.block k hk).trans (h.block k hk hn)⟩
theorem plist_Limits {β : Type} (pl : LimT → β) (M : List Int → Nat → Int → β × Nat × Int) (m : Int) (K : Nat) {w0 w : World} {v : Value} {l : List Int} {g : Nat} (h : PRd w0 v l g w 0) (hm0 : 0 ≤ m) (hm : m ≤ 1000)
    (hrun : ∀ args W, (callFunc K args).run Tryz.prog W = .ok (.enter K args) W)
    (hM : ∀ a, a ≤ l.length → (M l a 0).2.2 = 0 → (M l a 0).2.1 ≤ l.length)
    (hone : ∀ W a, PRd w0 v l g W a → Calls Tryz.prog K #[.pointer (some ⟨g, 0, none⟩)] W (OneTold elL pl v g (M l a 0) (fun p : LimT => .agg #[.int .i64 p.1, .int .i64 p.2.1, .bool p.2.2]) W)) :
    Calls Tryz.prog 123 #[.pointer (some ⟨g, 0, none⟩), .int .i64 m, .func (.func K) #[.pointer (some ⟨g, 0, none⟩)] #[]] w (LTold elL pl v g (manyM m M l 0 0) w) := by
  have HM := Lib.hid hM
  have HONE := Lib.hid hone
  have HCN := Lib.hid (pcnt_m m h)
  have HU : Hid (0 ≤ (ru l 0 0).1 ∧ (ru l 0 0).2.1 ≤ l.length) := Lib.hid ⟨by have := ru_nat l 0 0; omega, ru_le (Nat.zero_le _)⟩
  have HPR := Lib.hid h
  have HGW : Hid (g < w.heap.size) := Lib.hid h.rd.lt
  have HMD : Hid (manyM m M l 0 0 = loopM (M l) (rmanyM m l 0 0).1.toNat (rmanyM m l 0 0).2.1 (rmanyM m l 0 0).2.2 []) := rfl
  unfold rmanyM at HMD
  obtain ⟨q, hq⟩ : ∃ q, manyM m M l 0 0 = q := ⟨_, rfl⟩
  rw [hq] at HMD ⊢
  clear hM hone h hq
  generalize ru l 0 0 = u at *
  obtain ⟨n0, a1, e1⟩ := u
  simp only at HCN HU HMD
  go_enter Tryz.func123, Tryz.ntmps123
  go_wp2_with fail
  refine HCN.out.mono ?_
  intro en w1 hq
  rcases hq.ways with ⟨he, rfl, hr, hb⟩ | ⟨he, rfl, hb⟩
  case inr =>
    have HQ : Hid (q = ([], a1, rf (decide (m < n0)) e1 4)) := Lib.hid (by rw [HMD.out, loopM_err _ _ _ _ _ he])
    exact bodyPost_pan rfl ⟨.inr ⟨by rw [HQ.out]; exact he, by rw [HQ.out]⟩, hb⟩
  have hmn : n0 ≤ m := by
    by_cases hx : m < n0
    · rw [decide_eq_true hx] at he
      unfold rf at he
      simp only [cond_true] at he
      split at he
      · exact absurd he (by decide)
      · rename_i h2; exact absurd he h2
    · omega
  rw [he, if_pos rfl] at HMD
  have HPR := Lib.hid (HPR.out.turn hr hb HU.out.2)
  have HB := Lib.hid hb
  have hn0 := HU.out.1
  obtain ⟨n, rfl⟩ : ∃ n : Nat, n0 = (n : Int) := ⟨n0.toNat, by omega⟩
  rw [Int.toNat_natCast] at HMD
  have hn1 : n ≤ 1000 := by omega
  clear hq hr hb he hmn hn0 hm hm0
  go_wp2_with fail
  go_loopw [7, 11] (fun u i' wr => ∃ (i a : Nat) (L : List LimT), i' = .int .i64 (i : Int) ∧ i ≤ n ∧ L.length = i ∧ q = loopM (M l) (n - i) a 0 (L.map pl) ∧ RowG.Own elL wr w.heap.size u L ∧ (∀ p ∈ L, Hi w.heap.size elL.e wr (fun W => elL.ok W p)) ∧ PRd w0 v l g wr a ∧ But g w wr) (fun _ i' _ => n - (intOf i').toNat)
  case atStart => exact ⟨0, a1, [], by go_num, by omega, rfl, by rw [Nat.sub_zero]; exact HMD.out, RowG.own_nil _ _ _, fun p hp => (by cases hp), HPR.out, HB.out⟩
  case round =>
    obtain ⟨i, a, L, rfl, hi, hL, hQ, hO, hH, hP, hB⟩ := hrel
    have HL := Lib.hid hL
    have HQ := Lib.hid hQ
    have HO := Lib.hid hO
    have HH := Lib.hid hH
    have HP := Lib.hid hP
    have HB2 := Lib.hid hB
    clear hL hQ hO hH hP hB HPR HMD HB
    by_cases hlt : i < n
    · have i1 : (0 : Int) ≤ (i : Int) := by omega
      have i2 : (i : Int) < (n : Int) := by omega
      have hw1 : IntKind.i64.wrap ((i : Int) + 1) = (i : Int) + 1 := IntWalk.i64_in _ (by omega)
      have HK : Hid (∃ k, n - i = k + 1 ∧ n - (i + 1) = k) := Lib.hid ⟨n - i - 1, by omega, by omega⟩
      go_wp2_with fail
      refine (HONE.out wr a HP.out).mono ?_
      intro en w2 hone
      rcases hone.ways with ⟨p, he, rfl, hh, hp, hr, hb⟩ | ⟨he, rfl, hb⟩
      · have HHN := Lib.hid hh
        have HPL := Lib.hid hp
        have HB3 := Lib.hid hb
        have HP3 := Lib.hid (HP.out.turn hr hb (HM.out a HP.out.at_le he))
        have HE := Lib.hid he
        clear hone hh hp hb hr he
        obtain ⟨x, y, z⟩ := p
        simp only
        go_wp2_with (at_builtin; refine Sec.stop_ ?_)
        refine Lib.hid ?_
        refine RowG.wp_oneG elL 27 Tryz.underlying27 _ rfl (.tmp 13) (.tmp 16) rfl w.heap.size _ L (x, y, z) ?_ rfl ?_ w2.heap.size ?_ ?_ ?_ (by decide) ?_ ?_
        focus (exact (HHN.out.keep ((Below.refl _ _).alloc (Nat.le_refl _) _)).now)
        focus (exact RowG.own_keep (own_but HO.out HB3.out HGW.out) ((Below.refl _ _).alloc (Nat.le_refl _) _))
        focus rfl
        focus (exact new_at elL w2 (x, y, z))
        focus (rw [HL.out]; omega)
        focus (exact Nat.le_trans (HB2.out.trans HB3.out).size (by simp))
        intro v3 w3 ho3 hb3 hk3
        have HO3 := Lib.hid ho3
        have HAG : Hid (Agr w.heap.size elL.e w2 w3) := Lib.hid ((Agr.of_below ((Below.refl w2.heap.size w2).alloc (Nat.le_refl _) _)).trans (Agr.of_row (RowG.own_keep (own_but HO.out HB3.out HGW.out) ((Below.refl _ _).alloc (Nat.le_refl _) _)) hb3.size hk3))
        have HHA : Hid (∀ p ∈ L ++ [(x, y, z)], Hi w.heap.size elL.e w3 (fun W => elL.ok W p)) := Lib.hid fun p hp => by
          rcases List.mem_append.1 hp with hp | hp
          · exact ((HH.out p hp).step (Agr.of_but HB3.out HGW.out)).step HAG.out
          · rw [List.mem_singleton.1 hp]
            exact (HHN.out.mono HB2.out.size).step HAG.out
        have HW3 : Hid (Below w.heap.size w2 w3) := Lib.hid ((((Below.refl w.heap.size w2).alloc (Nat.le_trans HB2.out.size HB3.out.size) _)).trans hb3)
        have HP4 := Lib.hid (HP3.out.low HW3.out HGW.out)
        have HB4 := Lib.hid (but_low (HB2.out.trans HB3.out) HW3.out)
        have HQ4 : Hid (q = loopM (M l) (n - (i + 1)) (M l a 0).2.1 0 ((L ++ [(x, y, z)]).map pl)) := Lib.hid (by
          obtain ⟨k, h1, h2⟩ := HK.out
          rw [HQ.out, h1, h2, loopM_ok, HE.out, List.map_append, List.map_singleton, HPL.out])
        have HL4 : Hid ((L ++ [(x, y, z)]).length = i + 1) := Lib.hid (by rw [List.length_append, List.length_singleton, HL.out])
        clear ho3 hb3 hk3
        go_wp2_with fail
        go_roundw
        case rel => exact ⟨i + 1, _, _, by go_num, hlt, HL4.out, HQ4.out, HO3.out, HHA.out, HP4.out, HB4.out⟩
        case measure => simp [intOf]; omega
      · have HE : Hid (q.2.2 = (M l a 0).2.2) := Lib.hid (by
          obtain ⟨k, h1, _⟩ := HK.out
          rw [HQ.out, h1, loopM_ok, loopM_err _ _ _ _ _ he])
        exact bodyPost_pan (P := Tryz.prog) (fn := Tryz.f123) rfl ⟨.inr ⟨by rw [HE.out]; exact he, by rw [HE.out]⟩, HB2.out.trans hb⟩
    · have hin : i = n := by omega
      subst hin
      have HQ5 : Hid (q = (L.map pl, a, 0)) := Lib.hid (by rw [HQ.out, Nat.sub_self]; rfl)
      go_wp2_with fail
      exact bodyPost_ret (v := u7) (by simp [results, Tryz.results123, go_sem]) rfl ⟨.inl ⟨by rw [HQ5.out], ⟨_, L, rfl, HO.out, HH.out, by rw [HQ5.out]⟩, by rw [HQ5.out]; exact HP.out.rd⟩, HB2.out⟩
end Go.Proofs.YtffegkjlgeblbaaGreatDoor.Mdl
end
