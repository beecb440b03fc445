/- A function's type at a place: by the program and by the document. -/
import Derived.Test.YtnminpbnlcgblaaTypVals
namespace Go.Proofs.Ytnminpbnlcgblaa.Typ
open Go.RowKit
set_option maxRecDepth 100000
set_option maxHeartbeats 1000000

theorem bcell {W w1 : World} (hb : Below W.heap.size W w1) : (∀ b o, b < W.heap.size → w1.cell? ⟨b, o, none⟩ = W.cell? ⟨b, o, none⟩) ∧ (∀ b o, b < W.heap.size → w1.frozen? ⟨b, o, none⟩ = W.frozen? ⟨b, o, none⟩) :=
  ⟨fun b o h => hb.cell (p := ⟨b, o, none⟩) h, fun b o h => hb.frozen (p := ⟨b, o, none⟩) h⟩
theorem OwnB.below {w : World} {B : Nat} {v : Value} {l : List Int} (h : OwnB w B v l) {a : Addr} (ha : a.block < B) (u : Value) : OwnB (w.setCell a u) B v l := ownsRow_setCell_below h ha u
theorem OwnB.base {w : World} {B B' : Nat} {v : Value} {l : List Int} (h : OwnB w B v l) (hB : B' ≤ B) : OwnB w B' v l := by
  refine ⟨h.1, ?_⟩
  rcases h.2 with h0 | ⟨g, cap, cur, hv, hb, rest⟩
  · exact .inl h0
  · exact .inr ⟨g, cap, cur, hv, Nat.le_trans hB hb, rest⟩
/-- Params, results, the place behind, the error. -/
def FnTold (x y : List Int) (p n : Int) (w : World) (e : Ending) (w' : World) : Prop := ∃ o1 o2, e = .returned (.tuple #[.agg #[o1, o2], .int .i64 p, .int .i64 n]) ∧ OwnB w' w.heap.size o1 x ∧ OwnB w' w.heap.size o2 y ∧ Below w.heap.size w w'
/-- A struct's two lists, none yet. -/
theorem two_cells {w w1 : World} {x y : Value} {t : TypeId} (hb : Below (w.alloc (.cells #[x, y] t)).heap.size (w.alloc (.cells #[x, y] t)) w1) :
    w1.cell? ⟨w.heap.size, 0, none⟩ = some x ∧ w1.cell? ⟨w.heap.size, 1, none⟩ = some y ∧ w1.frozen? ⟨w.heap.size, 0, none⟩ = false ∧ w1.frozen? ⟨w.heap.size, 1, none⟩ = false ∧ w.heap.size < w1.heap.size ∧ Below w.heap.size w w1 := by
  obtain ⟨hc, hf⟩ := bcell hb
  have hs := hb.size
  refine ⟨?_, ?_, ?_, ?_, by simp at hs; omega, ((Below.refl _ _).alloc (Nat.le_refl _) _).trans (hb.mono (by simp))⟩
  · rw [hc _ _ (by simp)]; simp
  · rw [hc _ _ (by simp)]; simp
  · rw [hf _ _ (by simp)]; simp
  · rw [hf _ _ (by simp)]; simp
theorem func_bt (v : Value) (at_ c E : Int) (w : World) (hE : (E != 0) = true)
    (h : ∀ W, Below w.heap.size w W → Calls Try.prog 27 #[v, .int .i64 at_] W (BtTold (c, E) W)) :
    Calls Try.prog 13 #[v, .int .i64 at_] w (FnTold [] [] 0 E w) := by
  have H := Lib.hid h
  clear h
  go_enter Try.func13, Try.ntmps13
  go_wp2_with fail
  refine (H.out _ ((Below.refl _ _).alloc (Nat.le_refl _) _)).mono ?_
  rintro e w1 ⟨rfl, rfl⟩
  go_wp2_with fail
  refine bodyPost_ret (v := .tuple #[.agg #[.slice none 0 0, .slice none 0 0], .int .i64 0, .int .i64 E]) (by simp [results, Try.results13, go_sem]) rfl ⟨_, _, rfl, ownB_nil _ _, ownB_nil _ _, ?_⟩
  repeat (first | exact Below.refl _ _ | refine Below.setCell ?_ (by simp) _ | refine Below.alloc ?_ (by simp) _)
theorem func_form (v : Value) (at_ c : Int) (w : World) (hc : (c != 96) = true)
    (h : ∀ W, Below w.heap.size w W → Calls Try.prog 27 #[v, .int .i64 at_] W (BtTold (c, 0) W)) :
    Calls Try.prog 13 #[v, .int .i64 at_] w (FnTold [] [] 0 3 w) := by
  have H := Lib.hid h
  clear h
  go_enter Try.func13, Try.ntmps13
  go_wp2_with fail
  refine (H.out _ ((Below.refl _ _).alloc (Nat.le_refl _) _)).mono ?_
  rintro e w1 ⟨rfl, rfl⟩
  go_wp2_with fail
  refine bodyPost_ret (v := .tuple #[.agg #[.slice none 0 0, .slice none 0 0], .int .i64 0, .int .i64 3]) (by simp [results, Try.results13, go_sem]) rfl ⟨_, _, rfl, ownB_nil _ _, ownB_nil _ _, ?_⟩
  repeat (first | exact Below.refl _ _ | refine Below.setCell ?_ (by simp) _ | refine Below.alloc ?_ (by simp) _)
theorem func_p (v : Value) (at_ E : Int) (w : World) (hE : (E != 0) = true) (hat : IntKind.i64.wrap (at_ + 1) = at_ + 1)
    (h : ∀ W, Below w.heap.size w W → Calls Try.prog 27 #[v, .int .i64 at_] W (BtTold (96, 0) W))
    (hp : ∀ W, Below w.heap.size w W → Calls Try.prog 30 #[v, .int .i64 (at_ + 1), .int .i64 16] W (VsTold ([], 0, E) W)) :
    Calls Try.prog 13 #[v, .int .i64 at_] w (FnTold [] [] 0 E w) := by
  have H := Lib.hid h
  have HP := Lib.hid hp
  clear h hp
  go_enter Try.func13, Try.ntmps13
  go_wp2_with fail
  refine (H.out _ ((Below.refl _ _).alloc (Nat.le_refl _) _)).mono ?_
  rintro e w1 ⟨rfl, rfl⟩
  go_wp2_with fail
  refine (HP.out _ ((Below.refl _ _).alloc (Nat.le_refl _) _)).mono ?_
  rintro e w2 ⟨o, rfl, _, hb⟩
  obtain ⟨c0, c1, f0, f1, hz, hb2⟩ := two_cells hb
  have HB := Lib.hid hb2
  clear hb hb2
  go_wp2_with fail
  refine bodyPost_ret (v := .tuple #[.agg #[.slice none 0 0, .slice none 0 0], .int .i64 0, .int .i64 E]) (by simp [results, Try.results13, go_sem, c0, c1]) rfl ⟨_, _, rfl, ownB_nil _ _, ownB_nil _ _, ?_⟩
  repeat (first | exact HB.out | refine Below.setCell ?_ (by simp) _ | refine Below.alloc ?_ (by simp) _)
theorem func_r (v : Value) (at_ p E : Int) (x : List Int) (w : World) (hE : (E != 0) = true) (hat : IntKind.i64.wrap (at_ + 1) = at_ + 1)
    (h : ∀ W, Below w.heap.size w W → Calls Try.prog 27 #[v, .int .i64 at_] W (BtTold (96, 0) W))
    (hp : ∀ W, Below w.heap.size w W → Calls Try.prog 30 #[v, .int .i64 (at_ + 1), .int .i64 16] W (VsTold (x, p, 0) W))
    (hr : ∀ W, Below w.heap.size w W → Calls Try.prog 30 #[v, .int .i64 p, .int .i64 1] W (VsTold ([], 0, E) W)) :
    Calls Try.prog 13 #[v, .int .i64 at_] w (FnTold [] [] 0 E w) := by
  have H := Lib.hid h
  have HP := Lib.hid hp
  have HR := Lib.hid hr
  clear h hp hr
  go_enter Try.func13, Try.ntmps13
  go_wp2_with fail
  refine (H.out _ ((Below.refl _ _).alloc (Nat.le_refl _) _)).mono ?_
  rintro e w1 ⟨rfl, rfl⟩
  go_wp2_with fail
  refine (HP.out _ ((Below.refl _ _).alloc (Nat.le_refl _) _)).mono ?_
  rintro e w2 ⟨o, rfl, _, hb⟩
  have HB := Lib.hid hb
  have HW := Lib.hid (two_cells hb).2.2.2.2.2
  clear hb
  go_wp2_with fail
  refine (HR.out _ HW.out).mono ?_
  rintro e w3 ⟨o3, rfl, _, hb3⟩
  obtain ⟨c0, c1, f0, f1, hz, hb2⟩ := two_cells (HB.out.trans (hb3.mono HB.out.size))
  have HB3 := Lib.hid hb2
  clear hb2 hb3
  go_wp2_with fail
  refine bodyPost_ret (v := .tuple #[.agg #[.slice none 0 0, .slice none 0 0], .int .i64 0, .int .i64 E]) (by simp [results, Try.results13, go_sem, c0, c1]) rfl ⟨_, _, rfl, ownB_nil _ _, ownB_nil _ _, ?_⟩
  repeat (first | exact HB3.out | refine Below.setCell ?_ (by simp) _ | refine Below.alloc ?_ (by simp) _)
theorem func_ok (v : Value) (at_ p q : Int) (x y : List Int) (w : World) (hat : IntKind.i64.wrap (at_ + 1) = at_ + 1)
    (h : ∀ W, Below w.heap.size w W → Calls Try.prog 27 #[v, .int .i64 at_] W (BtTold (96, 0) W))
    (hp : ∀ W, Below w.heap.size w W → Calls Try.prog 30 #[v, .int .i64 (at_ + 1), .int .i64 16] W (VsTold (x, p, 0) W))
    (hr : ∀ W, Below w.heap.size w W → Calls Try.prog 30 #[v, .int .i64 p, .int .i64 1] W (VsTold (y, q, 0) W)) :
    Calls Try.prog 13 #[v, .int .i64 at_] w (FnTold x y q 0 w) := by
  have H := Lib.hid h
  have HP := Lib.hid hp
  have HR := Lib.hid hr
  clear h hp hr
  go_enter Try.func13, Try.ntmps13
  go_wp2_with fail
  refine (H.out _ ((Below.refl _ _).alloc (Nat.le_refl _) _)).mono ?_
  rintro e w1 ⟨rfl, rfl⟩
  go_wp2_with fail
  refine (HP.out _ ((Below.refl _ _).alloc (Nat.le_refl _) _)).mono ?_
  rintro e w2 ⟨o, rfl, ho, hb⟩
  obtain ⟨A1, k1, rfl, _⟩ := ho.sl
  have hz2 := (two_cells hb).2.2.2.2.1
  have HO := Lib.hid ho
  have HB := Lib.hid hb
  have HW := Lib.hid (two_cells hb).2.2.2.2.2
  clear hb ho
  go_wp2_with fail
  refine (HR.out _ HW.out).mono ?_
  rintro e w3 ⟨o3, rfl, ho3, hb3⟩
  obtain ⟨A2, k2, rfl, _⟩ := ho3.sl
  obtain ⟨c0, c1, f0, f1, hz, hb2⟩ := two_cells (HB.out.trans (hb3.mono HB.out.size))
  have HO2 := Lib.hid (HO.out.keep hb3)
  have HO3 := Lib.hid ho3
  have HB3 := Lib.hid hb2
  clear hb2 hb3 ho3
  go_wp2_with fail
  refine bodyPost_ret (v := .tuple #[.agg #[.slice A1 x.length k1, .slice A2 y.length k2], .int .i64 q, .int .i64 0]) (by simp [results, Try.results13, go_sem, c0, c1]) rfl ⟨_, _, rfl, ?_, ?_, ?_⟩
  · exact ((HO2.out.below (by simp) _).below (by simp) _).base (by simp)
  · exact ((HO3.out.below (by simpa using hz2) _).below (by simpa using hz2) _).base (by omega)
  · repeat (first | exact HB3.out | refine Below.setCell ?_ (by simp) _ | refine Below.alloc ?_ (by simp) _)
theorem rfunc_bt (v : Value) (at_ c E : Int) (w : World) (hE : (E != 0) = true)
    (h : ∀ W, Below w.heap.size w W → Calls Try.prog 29 #[v, .int .i64 at_] W (BtTold (c, E) W)) :
    Calls Try.prog 14 #[v, .int .i64 at_] w (FnTold [] [] 0 E w) := by
  have H := Lib.hid h
  clear h
  go_enter Try.func14, Try.ntmps14
  go_wp2_with fail
  refine (H.out _ ((Below.refl _ _).alloc (Nat.le_refl _) _)).mono ?_
  rintro e w1 ⟨rfl, rfl⟩
  go_wp2_with fail
  refine bodyPost_ret (v := .tuple #[.agg #[.slice none 0 0, .slice none 0 0], .int .i64 0, .int .i64 E]) (by simp [results, Try.results14, go_sem]) rfl ⟨_, _, rfl, ownB_nil _ _, ownB_nil _ _, ?_⟩
  repeat (first | exact Below.refl _ _ | refine Below.setCell ?_ (by simp) _ | refine Below.alloc ?_ (by simp) _)
theorem rfunc_form (v : Value) (at_ c : Int) (w : World) (hc : (c != 96) = true)
    (h : ∀ W, Below w.heap.size w W → Calls Try.prog 29 #[v, .int .i64 at_] W (BtTold (c, 0) W)) :
    Calls Try.prog 14 #[v, .int .i64 at_] w (FnTold [] [] 0 3 w) := by
  have H := Lib.hid h
  clear h
  go_enter Try.func14, Try.ntmps14
  go_wp2_with fail
  refine (H.out _ ((Below.refl _ _).alloc (Nat.le_refl _) _)).mono ?_
  rintro e w1 ⟨rfl, rfl⟩
  go_wp2_with fail
  refine bodyPost_ret (v := .tuple #[.agg #[.slice none 0 0, .slice none 0 0], .int .i64 0, .int .i64 3]) (by simp [results, Try.results14, go_sem]) rfl ⟨_, _, rfl, ownB_nil _ _, ownB_nil _ _, ?_⟩
  repeat (first | exact Below.refl _ _ | refine Below.setCell ?_ (by simp) _ | refine Below.alloc ?_ (by simp) _)
theorem rfunc_p (v : Value) (at_ E : Int) (w : World) (hE : (E != 0) = true) (hat : IntKind.i64.wrap (at_ + 1) = at_ + 1)
    (h : ∀ W, Below w.heap.size w W → Calls Try.prog 29 #[v, .int .i64 at_] W (BtTold (96, 0) W))
    (hp : ∀ W, Below w.heap.size w W → Calls Try.prog 31 #[v, .int .i64 (at_ + 1), .int .u64 16] W (VsTold ([], 0, E) W)) :
    Calls Try.prog 14 #[v, .int .i64 at_] w (FnTold [] [] 0 E w) := by
  have H := Lib.hid h
  have HP := Lib.hid hp
  clear h hp
  go_enter Try.func14, Try.ntmps14
  go_wp2_with fail
  refine (H.out _ ((Below.refl _ _).alloc (Nat.le_refl _) _)).mono ?_
  rintro e w1 ⟨rfl, rfl⟩
  go_wp2_with fail
  refine (HP.out _ ((Below.refl _ _).alloc (Nat.le_refl _) _)).mono ?_
  rintro e w2 ⟨o, rfl, _, hb⟩
  obtain ⟨c0, c1, f0, f1, hz, hb2⟩ := two_cells hb
  have HB := Lib.hid hb2
  clear hb hb2
  go_wp2_with fail
  refine bodyPost_ret (v := .tuple #[.agg #[.slice none 0 0, .slice none 0 0], .int .i64 0, .int .i64 E]) (by simp [results, Try.results14, go_sem, c0, c1]) rfl ⟨_, _, rfl, ownB_nil _ _, ownB_nil _ _, ?_⟩
  repeat (first | exact HB.out | refine Below.setCell ?_ (by simp) _ | refine Below.alloc ?_ (by simp) _)
theorem rfunc_r (v : Value) (at_ p E : Int) (x : List Int) (w : World) (hE : (E != 0) = true) (hat : IntKind.i64.wrap (at_ + 1) = at_ + 1)
    (h : ∀ W, Below w.heap.size w W → Calls Try.prog 29 #[v, .int .i64 at_] W (BtTold (96, 0) W))
    (hp : ∀ W, Below w.heap.size w W → Calls Try.prog 31 #[v, .int .i64 (at_ + 1), .int .u64 16] W (VsTold (x, p, 0) W))
    (hr : ∀ W, Below w.heap.size w W → Calls Try.prog 31 #[v, .int .i64 p, .int .u64 1] W (VsTold ([], 0, E) W)) :
    Calls Try.prog 14 #[v, .int .i64 at_] w (FnTold [] [] 0 E w) := by
  have H := Lib.hid h
  have HP := Lib.hid hp
  have HR := Lib.hid hr
  clear h hp hr
  go_enter Try.func14, Try.ntmps14
  go_wp2_with fail
  refine (H.out _ ((Below.refl _ _).alloc (Nat.le_refl _) _)).mono ?_
  rintro e w1 ⟨rfl, rfl⟩
  go_wp2_with fail
  refine (HP.out _ ((Below.refl _ _).alloc (Nat.le_refl _) _)).mono ?_
  rintro e w2 ⟨o, rfl, _, hb⟩
  have HB := Lib.hid hb
  have HW := Lib.hid (two_cells hb).2.2.2.2.2
  clear hb
  go_wp2_with fail
  refine (HR.out _ HW.out).mono ?_
  rintro e w3 ⟨o3, rfl, _, hb3⟩
  obtain ⟨c0, c1, f0, f1, hz, hb2⟩ := two_cells (HB.out.trans (hb3.mono HB.out.size))
  have HB3 := Lib.hid hb2
  clear hb2 hb3
  go_wp2_with fail
  refine bodyPost_ret (v := .tuple #[.agg #[.slice none 0 0, .slice none 0 0], .int .i64 0, .int .i64 E]) (by simp [results, Try.results14, go_sem, c0, c1]) rfl ⟨_, _, rfl, ownB_nil _ _, ownB_nil _ _, ?_⟩
  repeat (first | exact HB3.out | refine Below.setCell ?_ (by simp) _ | refine Below.alloc ?_ (by simp) _)
theorem rfunc_ok (v : Value) (at_ p q : Int) (x y : List Int) (w : World) (hat : IntKind.i64.wrap (at_ + 1) = at_ + 1)
    (h : ∀ W, Below w.heap.size w W → Calls Try.prog 29 #[v, .int .i64 at_] W (BtTold (96, 0) W))
    (hp : ∀ W, Below w.heap.size w W → Calls Try.prog 31 #[v, .int .i64 (at_ + 1), .int .u64 16] W (VsTold (x, p, 0) W))
    (hr : ∀ W, Below w.heap.size w W → Calls Try.prog 31 #[v, .int .i64 p, .int .u64 1] W (VsTold (y, q, 0) W)) :
    Calls Try.prog 14 #[v, .int .i64 at_] w (FnTold x y q 0 w) := by
  have H := Lib.hid h
  have HP := Lib.hid hp
  have HR := Lib.hid hr
  clear h hp hr
  go_enter Try.func14, Try.ntmps14
  go_wp2_with fail
  refine (H.out _ ((Below.refl _ _).alloc (Nat.le_refl _) _)).mono ?_
  rintro e w1 ⟨rfl, rfl⟩
  go_wp2_with fail
  refine (HP.out _ ((Below.refl _ _).alloc (Nat.le_refl _) _)).mono ?_
  rintro e w2 ⟨o, rfl, ho, hb⟩
  obtain ⟨A1, k1, rfl, _⟩ := ho.sl
  have hz2 := (two_cells hb).2.2.2.2.1
  have HO := Lib.hid ho
  have HB := Lib.hid hb
  have HW := Lib.hid (two_cells hb).2.2.2.2.2
  clear hb ho
  go_wp2_with fail
  refine (HR.out _ HW.out).mono ?_
  rintro e w3 ⟨o3, rfl, ho3, hb3⟩
  obtain ⟨A2, k2, rfl, _⟩ := ho3.sl
  obtain ⟨c0, c1, f0, f1, hz, hb2⟩ := two_cells (HB.out.trans (hb3.mono HB.out.size))
  have HO2 := Lib.hid (HO.out.keep hb3)
  have HO3 := Lib.hid ho3
  have HB3 := Lib.hid hb2
  clear hb2 hb3 ho3
  go_wp2_with fail
  refine bodyPost_ret (v := .tuple #[.agg #[.slice A1 x.length k1, .slice A2 y.length k2], .int .i64 q, .int .i64 0]) (by simp [results, Try.results14, go_sem, c0, c1]) rfl ⟨_, _, rfl, ?_, ?_, ?_⟩
  · exact ((HO2.out.below (by simp) _).below (by simp) _).base (by simp)
  · exact ((HO3.out.below (by simpa using hz2) _).below (by simpa using hz2) _).base (by omega)
  · repeat (first | exact HB3.out | refine Below.setCell ?_ (by simp) _ | refine Below.alloc ?_ (by simp) _)
/-- A function's type at a place. -/
def fn2 (x : List Int) (r : List Int × Int × Int) : List Int × List Int × Int × Int := if r.2.2 ≠ 0 then ([], [], 0, r.2.2) else (x, r.1, r.2.1, 0)
def fn1 (l : List Int) (r : List Int × Int × Int) : List Int × List Int × Int × Int := if r.2.2 ≠ 0 then ([], [], 0, r.2.2) else fn2 r.1 (vs l r.2.1.toNat 1)
def fn (l : List Int) (at_ : Int) : List Int × List Int × Int × Int := if (bt l at_).2 ≠ 0 then ([], [], 0, (bt l at_).2) else if (bt l at_).1 ≠ 96 then ([], [], 0, 3) else fn1 l (vs l (at_.toNat + 1) 16)
def FnIs (x : List Int × List Int × Int × Int) (w : World) (e : Ending) (w' : World) : Prop := FnTold x.1 x.2.1 x.2.2.1 x.2.2.2 w e w'
theorem trip_of {r : List Int × Int × Int} {a b : Int} (h1 : r.2.1 = a) (h2 : r.2.2 = b) : r = (r.1, a, b) := by subst h1 h2; rfl
theorem rdl_one {fit : Int → Nat → Bool} {bits : Nat} : ∀ (l : List Int) (lo acc v m : Nat), Leb.rdl fit bits l lo acc = .ok v m → lo + 7 ≤ m
  | [], _, _, _, _, h => by cases h
  | c :: r, lo, acc, v, m, h => by
    rw [Leb.rdl] at h
    split at h
    · cases h
    · split at h
      · injection h with _ h
        omega
      · have := rdl_one r (lo + 7) _ v m h
        omega
theorem vs_ok {l : List Int} {k : Nat} {M : Int} (hk : k ≤ l.length) (h : (vs l k M).2.2 = 0) : ∃ q n : Nat, (vs l k M).2.1 = (q : Int) ∧ (vs l k M).1 = (l.drop (q - n)).take n ∧ (vs l k M).1.length = n ∧ k + n < q ∧ q ≤ l.length ∧ (n : Int) ≤ M ∧ ∀ x ∈ (vs l k M).1, isV x = true := by
  unfold vs at *
  cases hr : Leb.rdl Leb.fitU 32 (l.drop k) 0 0 with
  | short => rw [hr] at h; cases h
  | form => rw [hr] at h; cases h
  | ok n m =>
    rw [hr] at h
    have h : (vsN l (k + m / 7) n M).2.2 = 0 := h
    show ∃ q n', (vsN l (k + m / 7) n M).2.1 = _ ∧ (vsN l (k + m / 7) n M).1 = _ ∧ (vsN l (k + m / 7) n M).1.length = n' ∧ _ ∧ _ ∧ _ ∧ ∀ x ∈ (vsN l (k + m / 7) n M).1, _
    have hm := rdl_len _ _ _ _ _ hr
    have hm7 := rdl_one _ _ _ _ _ hr
    rw [List.length_drop] at hm
    unfold vsN at *
    by_cases hn : M < (n : Int)
    · rw [if_pos hn] at h; cases h
    · rw [if_neg hn] at h ⊢
      rcases vbad_ways n (l.drop (k + m / 7)) with ⟨h1, h2, h3⟩ | h1 | h1
      · rw [if_pos h1]
        rw [List.length_drop] at h2
        refine ⟨k + m / 7 + n, n, rfl, by rw [show k + m / 7 + n - n = k + m / 7 from by omega], by rw [List.length_take, List.length_drop]; omega, by omega, by omega, by omega, h3⟩
      · rw [if_neg (by omega)] at h
        rw [h1] at h; cases h
      · rw [if_neg (by omega)] at h
        rw [h1] at h; cases h
theorem vs_err {l : List Int} {k : Nat} {M : Int} (h : (vs l k M).2.2 ≠ 0) : vs l k M = ([], 0, (vs l k M).2.2) := by
  unfold vs at *
  cases hr : Leb.rdl Leb.fitU 32 (l.drop k) 0 0 with
  | short => rfl
  | form => rfl
  | ok n m =>
    rw [hr] at h
    have h : (vsN l (k + m / 7) n M).2.2 ≠ 0 := h
    show vsN l (k + m / 7) n M = ([], 0, (vsN l (k + m / 7) n M).2.2)
    unfold vsN at *
    by_cases hn : M < (n : Int)
    · rw [if_pos hn]
    · rw [if_neg hn] at h ⊢
      by_cases h1 : vbad (l.drop (k + m / 7)) n = 0
      · rw [if_pos h1] at h; exact absurd rfl h
      · rw [if_neg h1]
theorem func_any (v : Value) (l : List Int) (at_ : Int) (w : World) (hby : ∀ x ∈ l, 0 ≤ x ∧ x < 256) (hv : Sl w v l) (hl : l.length ≤ 1000000) :
    Calls Try.prog 13 #[v, .int .i64 at_] w (FnIs (fn l at_) w) := by
  have hB : ∀ W, Below w.heap.size w W → Calls Try.prog _ #[v, .int .i64 at_] W (BtTold (bt l at_) W) := fun W hW => byteAt_any v l at_ W (hv.keep hW) (by omega)
  unfold FnIs fn
  rcases bt_ways l at_ with ⟨hb, h⟩ | ⟨k, rfl, hk, hb⟩
  · rw [if_pos (show (bt l at_).2 ≠ 0 by omega)]
    refine func_bt v at_ (bt l at_).1 _ w ?_ hB
    have : (bt l at_).2 ≠ 0 := by omega
    simpa using this
  · rw [hb] at hB
    rw [hb, if_neg (by simp)]
    by_cases h96 : l.getD k 0 = 96
    · rw [h96] at hB
      rw [if_neg (fun h => h h96)]
      have hat : IntKind.i64.wrap ((k : Int) + 1) = (k : Int) + 1 := IntWalk.i64_in _ (by omega)
      have hP : ∀ W, Below w.heap.size w W → Calls Try.prog _ #[v, .int .i64 ((k : Int) + 1), _] W (VsTold (vs l (k + 1) 16) W) := fun W hW => vals_any v l (k + 1) 16 W hby (hv.keep hW) hl (by omega) (.inl rfl)
      rw [Int.toNat_natCast]
      unfold fn1
      by_cases he : (vs l (k + 1) 16).2.2 = 0
      · rw [if_neg (by simp [he])]
        obtain ⟨q, n, e1, _, _, _, hq, _⟩ := vs_ok (by omega) he
        rw [trip_of e1 he] at hP
        rw [e1, Int.toNat_natCast]
        have hR : ∀ W, Below w.heap.size w W → Calls Try.prog _ #[v, .int .i64 (q : Int), _] W (VsTold (vs l q 1) W) := fun W hW => vals_any v l q 1 W hby (hv.keep hW) hl hq (.inr rfl)
        unfold fn2
        by_cases he2 : (vs l q 1).2.2 = 0
        · rw [if_neg (by simp [he2])]
          exact func_ok v k q _ _ _ w hat hB hP (fun W hW => by have := hR W hW; rwa [trip_of rfl he2] at this)
        · rw [if_pos (by simpa using he2)]
          rw [vs_err he2] at hR
          exact func_r v k q _ _ w (by simpa using he2) hat hB hP hR
      · rw [if_pos (by simpa using he)]
        rw [vs_err he] at hP
        exact func_p v k _ w (by simpa using he) hat hB hP
    · rw [if_pos (by simpa using h96)]
      exact func_form v k _ w (by simpa using h96) hB
theorem rfunc_any (v : Value) (l : List Int) (at_ : Int) (w : World) (hby : ∀ x ∈ l, 0 ≤ x ∧ x < 256) (hv : Sl w v l) (hl : l.length ≤ 1000000) :
    Calls Try.prog 14 #[v, .int .i64 at_] w (FnIs (fn l at_) w) := by
  have hB : ∀ W, Below w.heap.size w W → Calls Try.prog _ #[v, .int .i64 at_] W (BtTold (bt l at_) W) := fun W hW => one_any v l at_ W (hv.keep hW) (by omega)
  unfold FnIs fn
  rcases bt_ways l at_ with ⟨hb, h⟩ | ⟨k, rfl, hk, hb⟩
  · rw [if_pos (show (bt l at_).2 ≠ 0 by omega)]
    refine rfunc_bt v at_ (bt l at_).1 _ w ?_ hB
    have : (bt l at_).2 ≠ 0 := by omega
    simpa using this
  · rw [hb] at hB
    rw [hb, if_neg (by simp)]
    by_cases h96 : l.getD k 0 = 96
    · rw [h96] at hB
      rw [if_neg (fun h => h h96)]
      have hat : IntKind.i64.wrap ((k : Int) + 1) = (k : Int) + 1 := IntWalk.i64_in _ (by omega)
      have hP : ∀ W, Below w.heap.size w W → Calls Try.prog _ #[v, .int .i64 ((k : Int) + 1), _] W (VsTold (vs l (k + 1) 16) W) := fun W hW => rvals_any v l (k + 1) 16 W hby (hv.keep hW) hl (by omega) (.inl rfl)
      rw [Int.toNat_natCast]
      unfold fn1
      by_cases he : (vs l (k + 1) 16).2.2 = 0
      · rw [if_neg (by simp [he])]
        obtain ⟨q, n, e1, _, _, _, hq, _⟩ := vs_ok (by omega) he
        rw [trip_of e1 he] at hP
        rw [e1, Int.toNat_natCast]
        have hR : ∀ W, Below w.heap.size w W → Calls Try.prog _ #[v, .int .i64 (q : Int), _] W (VsTold (vs l q 1) W) := fun W hW => rvals_any v l q 1 W hby (hv.keep hW) hl hq (.inr rfl)
        unfold fn2
        by_cases he2 : (vs l q 1).2.2 = 0
        · rw [if_neg (by simp [he2])]
          exact rfunc_ok v k q _ _ _ w hat hB hP (fun W hW => by have := hR W hW; rwa [trip_of rfl he2] at this)
        · rw [if_pos (by simpa using he2)]
          rw [vs_err he2] at hR
          exact rfunc_r v k q _ _ w (by simpa using he2) hat hB hP hR
      · rw [if_pos (by simpa using he)]
        rw [vs_err he] at hP
        exact rfunc_p v k _ w (by simpa using he) hat hB hP
    · rw [if_pos (by simpa using h96)]
      exact rfunc_form v k _ w (by simpa using h96) hB
end Go.Proofs.Ytnminpbnlcgblaa.Typ
