/- Limits at a place: by the program and by the document. -/
import Derived.Test.YtnminpbnlcgblaaTypMath
namespace Go.Proofs.Ytnminpbnlcgblaa.Typ
open Go.RowKit
set_option maxRecDepth 100000
set_option maxHeartbeats 1000000

/-- Least, greatest, whether there is one, the place behind, the error. -/
def LmTold (a b : Int) (h : Bool) (p n : Int) (w : World) (e : Ending) (w' : World) : Prop := e = .returned (.tuple #[.agg #[.int .i64 a, .int .i64 b, .bool h], .int .i64 p, .int .i64 n]) ∧ Below w.heap.size w w'
theorem three_cells {w w1 : World} {x y z : Value} {t : TypeId} (hb : Below (w.alloc (.cells #[x, y, z] t)).heap.size (w.alloc (.cells #[x, y, z] t)) w1) :
    w1.cell? ⟨w.heap.size, 0, none⟩ = some x ∧ w1.cell? ⟨w.heap.size, 1, none⟩ = some y ∧ w1.cell? ⟨w.heap.size, 2, none⟩ = some z ∧ w1.frozen? ⟨w.heap.size, 0, none⟩ = false ∧ w1.frozen? ⟨w.heap.size, 1, none⟩ = false ∧ w1.frozen? ⟨w.heap.size, 2, none⟩ = false ∧ w.heap.size < w1.heap.size ∧ Below w.heap.size w w1 := by
  obtain ⟨hc, hf⟩ := bcell hb
  have hs := hb.size
  refine ⟨?_, ?_, ?_, ?_, ?_, ?_, by simp at hs; omega, ((Below.refl _ _).alloc (Nat.le_refl _) _).trans (hb.mono (by simp))⟩
  · rw [hc _ _ (by simp)]; simp
  · rw [hc _ _ (by simp)]; simp
  · rw [hc _ _ (by simp)]; simp
  · rw [hf _ _ (by simp)]; simp
  · rw [hf _ _ (by simp)]; simp
  · rw [hf _ _ (by simp)]; simp
theorem lim_bt (v : Value) (at_ c E : Int) (w : World) (hE : (E != 0) = true)
    (h : ∀ W, Below w.heap.size w W → Calls Try.prog 27 #[v, .int .i64 at_] W (BtTold (c, E) W)) :
    Calls Try.prog 15 #[v, .int .i64 at_] w (LmTold 0 0 false 0 E w) := by
  have H := Lib.hid h
  clear h
  go_enter Try.func15, Try.ntmps15
  go_wp2_with fail
  refine (H.out _ ((Below.refl _ _).alloc (Nat.le_refl _) _)).mono ?_
  rintro e w1 ⟨rfl, rfl⟩
  go_wp2_with fail
  refine bodyPost_ret (v := .tuple #[.agg #[.int .i64 0, .int .i64 0, .bool false], .int .i64 0, .int .i64 E]) (by simp [results, Try.results15, go_sem]) rfl ⟨rfl, ?_⟩
  repeat (first | exact Below.refl _ _ | refine Below.setCell ?_ (by simp) _ | refine Below.alloc ?_ (by simp) _)
theorem lim_form (v : Value) (at_ c : Int) (w : World) (hc : 1 < c)
    (h : ∀ W, Below w.heap.size w W → Calls Try.prog 27 #[v, .int .i64 at_] W (BtTold (c, 0) W)) :
    Calls Try.prog 15 #[v, .int .i64 at_] w (LmTold 0 0 false 0 3 w) := by
  have t0 : (c != 0) = true := by simp; omega
  have t1 : (c != 1) = true := by simp; omega
  have t2 : decide (1 < c) = true := decide_eq_true hc
  clear hc
  have H := Lib.hid h
  clear h
  go_enter Try.func15, Try.ntmps15
  go_wp2_with fail
  refine (H.out _ ((Below.refl _ _).alloc (Nat.le_refl _) _)).mono ?_
  rintro e w1 ⟨rfl, rfl⟩
  go_wp2_with fail
  refine bodyPost_ret (v := .tuple #[.agg #[.int .i64 0, .int .i64 0, .bool false], .int .i64 0, .int .i64 3]) (by simp [results, Try.results15, go_sem]) rfl ⟨rfl, ?_⟩
  repeat (first | exact Below.refl _ _ | refine Below.setCell ?_ (by simp) _ | refine Below.alloc ?_ (by simp) _)
theorem lim_1 (v : Value) (at_ c E : Int) (w : World) (hc : c = 0 ∨ c = 1) (hE : (E != 0) = true) (hat : IntKind.i64.wrap (at_ + 1) = at_ + 1)
    (h : ∀ W, Below w.heap.size w W → Calls Try.prog 27 #[v, .int .i64 at_] W (BtTold (c, 0) W))
    (hp : ∀ W, Below w.heap.size w W → Calls Try.prog 32 #[v, .int .i64 (at_ + 1), .int .i64 32] W (Leb.RTold W 0 0 E .u64)) :
    Calls Try.prog 15 #[v, .int .i64 at_] w (LmTold 0 0 false 0 E w) := by
  have t0 : ((c != 0) && (c != 1)) = false := by rcases hc with rfl | rfl <;> rfl
  rcases hc with rfl | rfl
  all_goals clear t0
  · have H := Lib.hid h
    have HP := Lib.hid hp
    clear h hp
    go_enter Try.func15, Try.ntmps15
    go_wp2_with fail
    refine (H.out _ ((Below.refl _ _).alloc (Nat.le_refl _) _)).mono ?_
    rintro e w1 ⟨rfl, rfl⟩
    go_wp2_with fail
    refine (HP.out _ ((Below.refl _ _).alloc (Nat.le_refl _) _)).mono ?_
    rintro e w2 ⟨rfl, hb⟩
    obtain ⟨c0, c1, c2, f0, f1, f2, hz, hb2⟩ := three_cells hb
    have HB := Lib.hid hb2
    clear hb hb2
    go_wp2_with fail
    refine bodyPost_ret (v := .tuple #[.agg #[.int .i64 0, .int .i64 0, .bool false], .int .i64 0, .int .i64 E]) (by simp [results, Try.results15, go_sem, c0, c1, c2]) rfl ⟨rfl, ?_⟩
    repeat (first | exact HB.out | refine Below.setCell ?_ (by simp) _ | refine Below.alloc ?_ (by simp) _)
  · have H := Lib.hid h
    have HP := Lib.hid hp
    clear h hp
    go_enter Try.func15, Try.ntmps15
    go_wp2_with fail
    refine (H.out _ ((Below.refl _ _).alloc (Nat.le_refl _) _)).mono ?_
    rintro e w1 ⟨rfl, rfl⟩
    go_wp2_with fail
    refine (HP.out _ ((Below.refl _ _).alloc (Nat.le_refl _) _)).mono ?_
    rintro e w2 ⟨rfl, hb⟩
    obtain ⟨c0, c1, c2, f0, f1, f2, hz, hb2⟩ := three_cells hb
    have HB := Lib.hid hb2
    clear hb hb2
    go_wp2_with fail
    refine bodyPost_ret (v := .tuple #[.agg #[.int .i64 0, .int .i64 0, .bool false], .int .i64 0, .int .i64 E]) (by simp [results, Try.results15, go_sem, c0, c1, c2]) rfl ⟨rfl, ?_⟩
    repeat (first | exact HB.out | refine Below.setCell ?_ (by simp) _ | refine Below.alloc ?_ (by simp) _)
theorem lim_0 (v : Value) (at_ n p : Int) (w : World) (hn : IntKind.i64.wrap n = n) (hat : IntKind.i64.wrap (at_ + 1) = at_ + 1)
    (h : ∀ W, Below w.heap.size w W → Calls Try.prog 27 #[v, .int .i64 at_] W (BtTold (0, 0) W))
    (hp : ∀ W, Below w.heap.size w W → Calls Try.prog 32 #[v, .int .i64 (at_ + 1), .int .i64 32] W (Leb.RTold W n p 0 .u64)) :
    Calls Try.prog 15 #[v, .int .i64 at_] w (LmTold n 0 false p 0 w) := by
  have H := Lib.hid h
  have HP := Lib.hid hp
  clear h hp
  go_enter Try.func15, Try.ntmps15
  go_wp2_with fail
  refine (H.out _ ((Below.refl _ _).alloc (Nat.le_refl _) _)).mono ?_
  rintro e w1 ⟨rfl, rfl⟩
  go_wp2_with fail
  refine (HP.out _ ((Below.refl _ _).alloc (Nat.le_refl _) _)).mono ?_
  rintro e w2 ⟨rfl, hb⟩
  obtain ⟨c0, c1, c2, f0, f1, f2, hz, hb2⟩ := three_cells hb
  have HB := Lib.hid hb2
  clear hb hb2
  go_wp2_with fail
  refine bodyPost_ret (v := .tuple #[.agg #[.int .i64 n, .int .i64 0, .bool false], .int .i64 p, .int .i64 0]) (by simp [results, Try.results15, go_sem, c0, c1, c2]) rfl ⟨rfl, ?_⟩
  repeat (first | exact HB.out | refine Below.setCell ?_ (by simp) _ | refine Below.alloc ?_ (by simp) _)
theorem lim_2 (v : Value) (at_ n p E : Int) (w : World) (hE : (E != 0) = true) (hat : IntKind.i64.wrap (at_ + 1) = at_ + 1)
    (h : ∀ W, Below w.heap.size w W → Calls Try.prog 27 #[v, .int .i64 at_] W (BtTold (1, 0) W))
    (hp : ∀ W, Below w.heap.size w W → Calls Try.prog 32 #[v, .int .i64 (at_ + 1), .int .i64 32] W (Leb.RTold W n p 0 .u64))
    (hr : ∀ W, Below w.heap.size w W → Calls Try.prog 32 #[v, .int .i64 p, .int .i64 32] W (Leb.RTold W 0 0 E .u64)) :
    Calls Try.prog 15 #[v, .int .i64 at_] w (LmTold 0 0 false 0 E w) := by
  have H := Lib.hid h
  have HP := Lib.hid hp
  have HR := Lib.hid hr
  clear h hp hr
  go_enter Try.func15, Try.ntmps15
  go_wp2_with fail
  refine (H.out _ ((Below.refl _ _).alloc (Nat.le_refl _) _)).mono ?_
  rintro e w1 ⟨rfl, rfl⟩
  go_wp2_with fail
  refine (HP.out _ ((Below.refl _ _).alloc (Nat.le_refl _) _)).mono ?_
  rintro e w2 ⟨rfl, hb⟩
  have HB := Lib.hid hb
  have HW := Lib.hid (three_cells hb).2.2.2.2.2.2.2
  clear hb
  go_wp2_with fail
  refine (HR.out _ HW.out).mono ?_
  rintro e w3 ⟨rfl, hb3⟩
  obtain ⟨c0, c1, c2, f0, f1, f2, hz, hb2⟩ := three_cells (HB.out.trans (hb3.mono HB.out.size))
  have HB3 := Lib.hid hb2
  clear hb2 hb3
  go_wp2_with fail
  refine bodyPost_ret (v := .tuple #[.agg #[.int .i64 0, .int .i64 0, .bool false], .int .i64 0, .int .i64 E]) (by simp [results, Try.results15, go_sem, c0, c1, c2]) rfl ⟨rfl, ?_⟩
  repeat (first | exact HB3.out | refine Below.setCell ?_ (by simp) _ | refine Below.alloc ?_ (by simp) _)
theorem lim_3 (v : Value) (at_ n p m q : Int) (w : World) (hn : IntKind.i64.wrap n = n) (hm : IntKind.i64.wrap m = m) (hat : IntKind.i64.wrap (at_ + 1) = at_ + 1)
    (h : ∀ W, Below w.heap.size w W → Calls Try.prog 27 #[v, .int .i64 at_] W (BtTold (1, 0) W))
    (hp : ∀ W, Below w.heap.size w W → Calls Try.prog 32 #[v, .int .i64 (at_ + 1), .int .i64 32] W (Leb.RTold W n p 0 .u64))
    (hr : ∀ W, Below w.heap.size w W → Calls Try.prog 32 #[v, .int .i64 p, .int .i64 32] W (Leb.RTold W m q 0 .u64)) :
    Calls Try.prog 15 #[v, .int .i64 at_] w (LmTold n m true q 0 w) := by
  have H := Lib.hid h
  have HP := Lib.hid hp
  have HR := Lib.hid hr
  clear h hp hr
  go_enter Try.func15, Try.ntmps15
  go_wp2_with fail
  refine (H.out _ ((Below.refl _ _).alloc (Nat.le_refl _) _)).mono ?_
  rintro e w1 ⟨rfl, rfl⟩
  go_wp2_with fail
  refine (HP.out _ ((Below.refl _ _).alloc (Nat.le_refl _) _)).mono ?_
  rintro e w2 ⟨rfl, hb⟩
  have HB := Lib.hid hb
  have HW := Lib.hid (three_cells hb).2.2.2.2.2.2.2
  clear hb
  go_wp2_with fail
  refine (HR.out _ HW.out).mono ?_
  rintro e w3 ⟨rfl, hb3⟩
  obtain ⟨c0, c1, c2, f0, f1, f2, hz, hb2⟩ := three_cells (HB.out.trans (hb3.mono HB.out.size))
  have HB3 := Lib.hid hb2
  clear hb2 hb3
  go_wp2_with fail
  refine bodyPost_ret (v := .tuple #[.agg #[.int .i64 n, .int .i64 m, .bool true], .int .i64 q, .int .i64 0]) (by simp [results, Try.results15, go_sem, c0, c1, c2]) rfl ⟨rfl, ?_⟩
  repeat (first | exact HB3.out | refine Below.setCell ?_ (by simp) _ | refine Below.alloc ?_ (by simp) _)
theorem rlim_bt (v : Value) (at_ c E : Int) (w : World) (hE : (E != 0) = true)
    (h : ∀ W, Below w.heap.size w W → Calls Try.prog 29 #[v, .int .i64 at_] W (BtTold (c, E) W)) :
    Calls Try.prog 16 #[v, .int .i64 at_] w (LmTold 0 0 false 0 E w) := by
  have H := Lib.hid h
  clear h
  go_enter Try.func16, Try.ntmps16
  go_wp2_with fail
  refine (H.out _ ((Below.refl _ _).alloc (Nat.le_refl _) _)).mono ?_
  rintro e w1 ⟨rfl, rfl⟩
  go_wp2_with fail
  refine bodyPost_ret (v := .tuple #[.agg #[.int .i64 0, .int .i64 0, .bool false], .int .i64 0, .int .i64 E]) (by simp [results, Try.results16, go_sem]) rfl ⟨rfl, ?_⟩
  repeat (first | exact Below.refl _ _ | refine Below.setCell ?_ (by simp) _ | refine Below.alloc ?_ (by simp) _)
theorem rlim_form (v : Value) (at_ c : Int) (w : World) (hc : 1 < c)
    (h : ∀ W, Below w.heap.size w W → Calls Try.prog 29 #[v, .int .i64 at_] W (BtTold (c, 0) W)) :
    Calls Try.prog 16 #[v, .int .i64 at_] w (LmTold 0 0 false 0 3 w) := by
  have t0 : (c != 0) = true := by simp; omega
  have t1 : (c != 1) = true := by simp; omega
  have t2 : decide (1 < c) = true := decide_eq_true hc
  clear hc
  have H := Lib.hid h
  clear h
  go_enter Try.func16, Try.ntmps16
  go_wp2_with fail
  refine (H.out _ ((Below.refl _ _).alloc (Nat.le_refl _) _)).mono ?_
  rintro e w1 ⟨rfl, rfl⟩
  go_wp2_with fail
  refine bodyPost_ret (v := .tuple #[.agg #[.int .i64 0, .int .i64 0, .bool false], .int .i64 0, .int .i64 3]) (by simp [results, Try.results16, go_sem]) rfl ⟨rfl, ?_⟩
  repeat (first | exact Below.refl _ _ | refine Below.setCell ?_ (by simp) _ | refine Below.alloc ?_ (by simp) _)
theorem rlim_1 (v : Value) (at_ c E : Int) (w : World) (hc : c = 0 ∨ c = 1) (hE : (E != 0) = true) (hat : IntKind.i64.wrap (at_ + 1) = at_ + 1)
    (h : ∀ W, Below w.heap.size w W → Calls Try.prog 29 #[v, .int .i64 at_] W (BtTold (c, 0) W))
    (hp : ∀ W, Below w.heap.size w W → Calls Try.prog 33 #[v, .int .i64 (at_ + 1), .int .i64 32] W (Leb.RTold W 0 0 E .u64)) :
    Calls Try.prog 16 #[v, .int .i64 at_] w (LmTold 0 0 false 0 E w) := by
  have t0 : ((c != 0) && (c != 1)) = false := by rcases hc with rfl | rfl <;> rfl
  rcases hc with rfl | rfl
  all_goals clear t0
  · have H := Lib.hid h
    have HP := Lib.hid hp
    clear h hp
    go_enter Try.func16, Try.ntmps16
    go_wp2_with fail
    refine (H.out _ ((Below.refl _ _).alloc (Nat.le_refl _) _)).mono ?_
    rintro e w1 ⟨rfl, rfl⟩
    go_wp2_with fail
    refine (HP.out _ ((Below.refl _ _).alloc (Nat.le_refl _) _)).mono ?_
    rintro e w2 ⟨rfl, hb⟩
    obtain ⟨c0, c1, c2, f0, f1, f2, hz, hb2⟩ := three_cells hb
    have HB := Lib.hid hb2
    clear hb hb2
    go_wp2_with fail
    refine bodyPost_ret (v := .tuple #[.agg #[.int .i64 0, .int .i64 0, .bool false], .int .i64 0, .int .i64 E]) (by simp [results, Try.results16, go_sem, c0, c1, c2]) rfl ⟨rfl, ?_⟩
    repeat (first | exact HB.out | refine Below.setCell ?_ (by simp) _ | refine Below.alloc ?_ (by simp) _)
  · have H := Lib.hid h
    have HP := Lib.hid hp
    clear h hp
    go_enter Try.func16, Try.ntmps16
    go_wp2_with fail
    refine (H.out _ ((Below.refl _ _).alloc (Nat.le_refl _) _)).mono ?_
    rintro e w1 ⟨rfl, rfl⟩
    go_wp2_with fail
    refine (HP.out _ ((Below.refl _ _).alloc (Nat.le_refl _) _)).mono ?_
    rintro e w2 ⟨rfl, hb⟩
    obtain ⟨c0, c1, c2, f0, f1, f2, hz, hb2⟩ := three_cells hb
    have HB := Lib.hid hb2
    clear hb hb2
    go_wp2_with fail
    refine bodyPost_ret (v := .tuple #[.agg #[.int .i64 0, .int .i64 0, .bool false], .int .i64 0, .int .i64 E]) (by simp [results, Try.results16, go_sem, c0, c1, c2]) rfl ⟨rfl, ?_⟩
    repeat (first | exact HB.out | refine Below.setCell ?_ (by simp) _ | refine Below.alloc ?_ (by simp) _)
theorem rlim_0 (v : Value) (at_ n p : Int) (w : World) (hn : IntKind.i64.wrap n = n) (hat : IntKind.i64.wrap (at_ + 1) = at_ + 1)
    (h : ∀ W, Below w.heap.size w W → Calls Try.prog 29 #[v, .int .i64 at_] W (BtTold (0, 0) W))
    (hp : ∀ W, Below w.heap.size w W → Calls Try.prog 33 #[v, .int .i64 (at_ + 1), .int .i64 32] W (Leb.RTold W n p 0 .u64)) :
    Calls Try.prog 16 #[v, .int .i64 at_] w (LmTold n 0 false p 0 w) := by
  have H := Lib.hid h
  have HP := Lib.hid hp
  clear h hp
  go_enter Try.func16, Try.ntmps16
  go_wp2_with fail
  refine (H.out _ ((Below.refl _ _).alloc (Nat.le_refl _) _)).mono ?_
  rintro e w1 ⟨rfl, rfl⟩
  go_wp2_with fail
  refine (HP.out _ ((Below.refl _ _).alloc (Nat.le_refl _) _)).mono ?_
  rintro e w2 ⟨rfl, hb⟩
  obtain ⟨c0, c1, c2, f0, f1, f2, hz, hb2⟩ := three_cells hb
  have HB := Lib.hid hb2
  clear hb hb2
  go_wp2_with fail
  refine bodyPost_ret (v := .tuple #[.agg #[.int .i64 n, .int .i64 0, .bool false], .int .i64 p, .int .i64 0]) (by simp [results, Try.results16, go_sem, c0, c1, c2]) rfl ⟨rfl, ?_⟩
  repeat (first | exact HB.out | refine Below.setCell ?_ (by simp) _ | refine Below.alloc ?_ (by simp) _)
theorem rlim_2 (v : Value) (at_ n p E : Int) (w : World) (hE : (E != 0) = true) (hat : IntKind.i64.wrap (at_ + 1) = at_ + 1)
    (h : ∀ W, Below w.heap.size w W → Calls Try.prog 29 #[v, .int .i64 at_] W (BtTold (1, 0) W))
    (hp : ∀ W, Below w.heap.size w W → Calls Try.prog 33 #[v, .int .i64 (at_ + 1), .int .i64 32] W (Leb.RTold W n p 0 .u64))
    (hr : ∀ W, Below w.heap.size w W → Calls Try.prog 33 #[v, .int .i64 p, .int .i64 32] W (Leb.RTold W 0 0 E .u64)) :
    Calls Try.prog 16 #[v, .int .i64 at_] w (LmTold 0 0 false 0 E w) := by
  have H := Lib.hid h
  have HP := Lib.hid hp
  have HR := Lib.hid hr
  clear h hp hr
  go_enter Try.func16, Try.ntmps16
  go_wp2_with fail
  refine (H.out _ ((Below.refl _ _).alloc (Nat.le_refl _) _)).mono ?_
  rintro e w1 ⟨rfl, rfl⟩
  go_wp2_with fail
  refine (HP.out _ ((Below.refl _ _).alloc (Nat.le_refl _) _)).mono ?_
  rintro e w2 ⟨rfl, hb⟩
  have HB := Lib.hid hb
  have HW := Lib.hid (three_cells hb).2.2.2.2.2.2.2
  clear hb
  go_wp2_with fail
  refine (HR.out _ HW.out).mono ?_
  rintro e w3 ⟨rfl, hb3⟩
  obtain ⟨c0, c1, c2, f0, f1, f2, hz, hb2⟩ := three_cells (HB.out.trans (hb3.mono HB.out.size))
  have HB3 := Lib.hid hb2
  clear hb2 hb3
  go_wp2_with fail
  refine bodyPost_ret (v := .tuple #[.agg #[.int .i64 0, .int .i64 0, .bool false], .int .i64 0, .int .i64 E]) (by simp [results, Try.results16, go_sem, c0, c1, c2]) rfl ⟨rfl, ?_⟩
  repeat (first | exact HB3.out | refine Below.setCell ?_ (by simp) _ | refine Below.alloc ?_ (by simp) _)
theorem rlim_3 (v : Value) (at_ n p m q : Int) (w : World) (hn : IntKind.i64.wrap n = n) (hm : IntKind.i64.wrap m = m) (hat : IntKind.i64.wrap (at_ + 1) = at_ + 1)
    (h : ∀ W, Below w.heap.size w W → Calls Try.prog 29 #[v, .int .i64 at_] W (BtTold (1, 0) W))
    (hp : ∀ W, Below w.heap.size w W → Calls Try.prog 33 #[v, .int .i64 (at_ + 1), .int .i64 32] W (Leb.RTold W n p 0 .u64))
    (hr : ∀ W, Below w.heap.size w W → Calls Try.prog 33 #[v, .int .i64 p, .int .i64 32] W (Leb.RTold W m q 0 .u64)) :
    Calls Try.prog 16 #[v, .int .i64 at_] w (LmTold n m true q 0 w) := by
  have H := Lib.hid h
  have HP := Lib.hid hp
  have HR := Lib.hid hr
  clear h hp hr
  go_enter Try.func16, Try.ntmps16
  go_wp2_with fail
  refine (H.out _ ((Below.refl _ _).alloc (Nat.le_refl _) _)).mono ?_
  rintro e w1 ⟨rfl, rfl⟩
  go_wp2_with fail
  refine (HP.out _ ((Below.refl _ _).alloc (Nat.le_refl _) _)).mono ?_
  rintro e w2 ⟨rfl, hb⟩
  have HB := Lib.hid hb
  have HW := Lib.hid (three_cells hb).2.2.2.2.2.2.2
  clear hb
  go_wp2_with fail
  refine (HR.out _ HW.out).mono ?_
  rintro e w3 ⟨rfl, hb3⟩
  obtain ⟨c0, c1, c2, f0, f1, f2, hz, hb2⟩ := three_cells (HB.out.trans (hb3.mono HB.out.size))
  have HB3 := Lib.hid hb2
  clear hb2 hb3
  go_wp2_with fail
  refine bodyPost_ret (v := .tuple #[.agg #[.int .i64 n, .int .i64 m, .bool true], .int .i64 q, .int .i64 0]) (by simp [results, Try.results16, go_sem, c0, c1, c2]) rfl ⟨rfl, ?_⟩
  repeat (first | exact HB3.out | refine Below.setCell ?_ (by simp) _ | refine Below.alloc ?_ (by simp) _)
/-- Limits at a place. -/
def lm2 (n : Nat) (k : Nat) : Leb.RU → Int × Int × Bool × Int × Int
  | .ok m j => ((n : Int), (m : Int), true, ((k + j / 7 : Nat) : Int), 0)
  | .short => (0, 0, false, 0, 2)
  | .form => (0, 0, false, 0, 3)
def lm1 (l : List Int) (c : Int) (k : Nat) : Leb.RU → Int × Int × Bool × Int × Int
  | .ok n j => if c = 0 then ((n : Int), 0, false, ((k + j / 7 : Nat) : Int), 0) else lm2 n (k + j / 7) (Leb.rdl Leb.fitU 32 (l.drop (k + j / 7)) 0 0)
  | .short => (0, 0, false, 0, 2)
  | .form => (0, 0, false, 0, 3)
def lm (l : List Int) (at_ : Int) : Int × Int × Bool × Int × Int := if (bt l at_).2 ≠ 0 then (0, 0, false, 0, (bt l at_).2) else if 1 < (bt l at_).1 then (0, 0, false, 0, 3) else lm1 l (bt l at_).1 (at_.toNat + 1) (Leb.rdl Leb.fitU 32 (l.drop (at_.toNat + 1)) 0 0)
def LmIs (x : Int × Int × Bool × Int × Int) (w : World) (e : Ending) (w' : World) : Prop := LmTold x.1 x.2.1 x.2.2.1 x.2.2.2.1 x.2.2.2.2 w e w'
/-- How a number is told. -/
def RdIs (k : Nat) (r : Leb.RU) (w : World) (e : Ending) (w' : World) : Prop := Leb.RTold w (Leb.uV r) (Leb.uP k r) (Leb.uE r) .u64 e w'
theorem uread_any (v : Value) (l : List Int) (k : Nat) (w : World) (hby : ∀ x ∈ l, 0 ≤ x ∧ x < 256) (hv : Sl w v l) (hl : l.length ≤ 1000000) (hk : k ≤ l.length) : Calls Try.prog 32 #[v, .int .i64 (k : Int), .int .i64 32] w (RdIs k (Leb.rdl Leb.fitU 32 (l.drop k) 0 0) w) := by
  have hv' := hv
  obtain ⟨A, c, rfl, _⟩ := hv'
  exact Leb.ReadU_is A c 32 k l w hv.leb hl (by255 hby) (by omega) (by omega) hk
theorem ruread_any (v : Value) (l : List Int) (k : Nat) (w : World) (hby : ∀ x ∈ l, 0 ≤ x ∧ x < 256) (hv : Sl w v l) (hl : l.length ≤ 1000000) (hk : k ≤ l.length) : Calls Try.prog 33 #[v, .int .i64 (k : Int), .int .i64 32] w (RdIs k (Leb.rdl Leb.fitU 32 (l.drop k) 0 0) w) := by
  have hv' := hv
  obtain ⟨A, c, rfl, _⟩ := hv'
  exact Leb.refReadU_is A c 32 k l w hv.leb hl (by255 hby) (by omega) (by omega) hk
theorem lim_any (v : Value) (l : List Int) (at_ : Int) (w : World) (hby : ∀ x ∈ l, 0 ≤ x ∧ x < 256) (hv : Sl w v l) (hl : l.length ≤ 1000000) :
    Calls Try.prog 15 #[v, .int .i64 at_] w (LmIs (lm l at_) w) := by
  have hB : ∀ W, Below w.heap.size w W → Calls Try.prog _ #[v, .int .i64 at_] W (BtTold (bt l at_) W) := fun W hW => byteAt_any v l at_ W (hv.keep hW) (by omega)
  unfold LmIs lm
  rcases bt_ways l at_ with ⟨hb, h⟩ | ⟨k, rfl, hk, hb⟩
  · rw [if_pos (show (bt l at_).2 ≠ 0 by omega)]
    refine lim_bt v at_ (bt l at_).1 _ w ?_ hB
    have : (bt l at_).2 ≠ 0 := by omega
    simpa using this
  · rw [hb] at hB
    rw [hb, if_neg (by simp)]
    have hc0 := hby (l.getD k 0) (by rw [List.getD_eq_getElem?_getD, List.getElem?_eq_getElem hk]; simp)
    by_cases h1 : 1 < l.getD k 0
    · rw [if_pos h1]
      exact lim_form v k _ w h1 hB
    · rw [if_neg h1, Int.toNat_natCast]
      have hat : IntKind.i64.wrap ((k : Int) + 1) = (k : Int) + 1 := IntWalk.i64_in _ (by omega)
      have hP : ∀ W, Below w.heap.size w W → Calls Try.prog _ #[v, .int .i64 ((k : Int) + 1), .int .i64 32] W (RdIs (k + 1) (Leb.rdl Leb.fitU 32 (l.drop (k + 1)) 0 0) W) := fun W hW => uread_any v l (k + 1) W hby (hv.keep hW) hl (by omega)
      cases hr : Leb.rdl Leb.fitU 32 (l.drop (k + 1)) 0 0 with
      | short => rw [hr] at hP; exact lim_1 v k _ 2 w (by omega) (by decide) hat hB hP
      | form => rw [hr] at hP; exact lim_1 v k _ 3 w (by omega) (by decide) hat hB hP
      | ok n j =>
        rw [hr] at hP
        have hn := (rdl32 (fun x hx => hby x (List.mem_of_mem_drop hx)) hr).1
        have hm := rdl_len _ _ _ _ _ hr
        rw [List.length_drop] at hm
        have hP : ∀ W, Below w.heap.size w W → Calls Try.prog _ #[v, .int .i64 ((k : Int) + 1), .int .i64 32] W (Leb.RTold W (n : Int) ((k + 1 + j / 7 : Nat) : Int) 0 .u64) := hP
        have hnw : IntKind.i64.wrap (n : Int) = (n : Int) := IntWalk.i64_in _ (by omega)
        by_cases h0 : l.getD k 0 = 0
        · rw [h0] at hB
          rw [show lm1 l (l.getD k 0, (0 : Int)).1 (k + 1) (.ok n j) = ((n : Int), 0, false, ((k + 1 + j / 7 : Nat) : Int), 0) from if_pos h0]
          exact lim_0 v k n _ w hnw hat hB hP
        · rw [show l.getD k 0 = 1 from by omega] at hB
          rw [show lm1 l (l.getD k 0, (0 : Int)).1 (k + 1) (.ok n j) = lm2 n (k + 1 + j / 7) (Leb.rdl Leb.fitU 32 (l.drop (k + 1 + j / 7)) 0 0) from if_neg h0]
          have hR : ∀ W, Below w.heap.size w W → Calls Try.prog _ #[v, .int .i64 ((k + 1 + j / 7 : Nat) : Int), .int .i64 32] W (RdIs (k + 1 + j / 7) (Leb.rdl Leb.fitU 32 (l.drop (k + 1 + j / 7)) 0 0) W) := fun W hW => uread_any v l (k + 1 + j / 7) W hby (hv.keep hW) hl (by omega)
          cases hr2 : Leb.rdl Leb.fitU 32 (l.drop (k + 1 + j / 7)) 0 0 with
          | short => rw [hr2] at hR; exact lim_2 v k n _ 2 w (by decide) hat hB hP hR
          | form => rw [hr2] at hR; exact lim_2 v k n _ 3 w (by decide) hat hB hP hR
          | ok m i =>
            rw [hr2] at hR
            have hm2 := (rdl32 (fun x hx => hby x (List.mem_of_mem_drop hx)) hr2).1
            exact lim_3 v k n _ m _ w hnw (IntWalk.i64_in _ (by omega)) hat hB hP hR
theorem rlim_any (v : Value) (l : List Int) (at_ : Int) (w : World) (hby : ∀ x ∈ l, 0 ≤ x ∧ x < 256) (hv : Sl w v l) (hl : l.length ≤ 1000000) :
    Calls Try.prog 16 #[v, .int .i64 at_] w (LmIs (lm l at_) w) := by
  have hB : ∀ W, Below w.heap.size w W → Calls Try.prog _ #[v, .int .i64 at_] W (BtTold (bt l at_) W) := fun W hW => one_any v l at_ W (hv.keep hW) (by omega)
  unfold LmIs lm
  rcases bt_ways l at_ with ⟨hb, h⟩ | ⟨k, rfl, hk, hb⟩
  · rw [if_pos (show (bt l at_).2 ≠ 0 by omega)]
    refine rlim_bt v at_ (bt l at_).1 _ w ?_ hB
    have : (bt l at_).2 ≠ 0 := by omega
    simpa using this
  · rw [hb] at hB
    rw [hb, if_neg (by simp)]
    have hc0 := hby (l.getD k 0) (by rw [List.getD_eq_getElem?_getD, List.getElem?_eq_getElem hk]; simp)
    by_cases h1 : 1 < l.getD k 0
    · rw [if_pos h1]
      exact rlim_form v k _ w h1 hB
    · rw [if_neg h1, Int.toNat_natCast]
      have hat : IntKind.i64.wrap ((k : Int) + 1) = (k : Int) + 1 := IntWalk.i64_in _ (by omega)
      have hP : ∀ W, Below w.heap.size w W → Calls Try.prog _ #[v, .int .i64 ((k : Int) + 1), .int .i64 32] W (RdIs (k + 1) (Leb.rdl Leb.fitU 32 (l.drop (k + 1)) 0 0) W) := fun W hW => ruread_any v l (k + 1) W hby (hv.keep hW) hl (by omega)
      cases hr : Leb.rdl Leb.fitU 32 (l.drop (k + 1)) 0 0 with
      | short => rw [hr] at hP; exact rlim_1 v k _ 2 w (by omega) (by decide) hat hB hP
      | form => rw [hr] at hP; exact rlim_1 v k _ 3 w (by omega) (by decide) hat hB hP
      | ok n j =>
        rw [hr] at hP
        have hn := (rdl32 (fun x hx => hby x (List.mem_of_mem_drop hx)) hr).1
        have hm := rdl_len _ _ _ _ _ hr
        rw [List.length_drop] at hm
        have hP : ∀ W, Below w.heap.size w W → Calls Try.prog _ #[v, .int .i64 ((k : Int) + 1), .int .i64 32] W (Leb.RTold W (n : Int) ((k + 1 + j / 7 : Nat) : Int) 0 .u64) := hP
        have hnw : IntKind.i64.wrap (n : Int) = (n : Int) := IntWalk.i64_in _ (by omega)
        by_cases h0 : l.getD k 0 = 0
        · rw [h0] at hB
          rw [show lm1 l (l.getD k 0, (0 : Int)).1 (k + 1) (.ok n j) = ((n : Int), 0, false, ((k + 1 + j / 7 : Nat) : Int), 0) from if_pos h0]
          exact rlim_0 v k n _ w hnw hat hB hP
        · rw [show l.getD k 0 = 1 from by omega] at hB
          rw [show lm1 l (l.getD k 0, (0 : Int)).1 (k + 1) (.ok n j) = lm2 n (k + 1 + j / 7) (Leb.rdl Leb.fitU 32 (l.drop (k + 1 + j / 7)) 0 0) from if_neg h0]
          have hR : ∀ W, Below w.heap.size w W → Calls Try.prog _ #[v, .int .i64 ((k + 1 + j / 7 : Nat) : Int), .int .i64 32] W (RdIs (k + 1 + j / 7) (Leb.rdl Leb.fitU 32 (l.drop (k + 1 + j / 7)) 0 0) W) := fun W hW => ruread_any v l (k + 1 + j / 7) W hby (hv.keep hW) hl (by omega)
          cases hr2 : Leb.rdl Leb.fitU 32 (l.drop (k + 1 + j / 7)) 0 0 with
          | short => rw [hr2] at hR; exact rlim_2 v k n _ 2 w (by decide) hat hB hP hR
          | form => rw [hr2] at hR; exact rlim_2 v k n _ 3 w (by decide) hat hB hP hR
          | ok m i =>
            rw [hr2] at hR
            have hm2 := (rdl32 (fun x hx => hby x (List.mem_of_mem_drop hx)) hr2).1
            exact rlim_3 v k n _ m _ w hnw (IntWalk.i64_in _ (by omega)) hat hB hP hR
end Go.Proofs.Ytnminpbnlcgblaa.Typ
