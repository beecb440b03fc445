/- TypLim, TypSane, TypPutF, TypWithin, TypWith2, TypPutL. -/
import Derived.Test.YtffegkjlgeblbaaGreatDoorLebTwo
import Derived.Test.YtffegkjlgeblbaaGreatDoorPkTypSame
section
/- Limits at a place: by the program and by the document. -/
namespace Go.Proofs.YtffegkjlgeblbaaGreatDoor.Typ
open Go.RowKit
set_option maxRecDepth 100000
set_option maxHeartbeats 1000000

def LmTold (a b : Int) (h : Bool) (p n : Int) (w : World) (e : Ending) (w' : World) : Prop := e = .returned (.tuple #[.agg #[.int .i64 a, .int .i64 b, .bool h], .int .i64 p, .int .i64 n]) ∧ Below w.heap.size w w'
theorem three_cells {w w1 : World} {x y z : Value} {t : TypeId} (hb : Below (w.alloc (.cells #[x, y, z] t)).heap.size (w.alloc (.cells #[x, y, z] t)) w1) :
    w1.cell? ⟨w.heap.size, 0, none⟩ = some x ∧ w1.cell? ⟨w.heap.size, 1, none⟩ = some y ∧ w1.cell? ⟨w.heap.size, 2, none⟩ = some z ∧ w1.frozen? ⟨w.heap.size, 0, none⟩ = false ∧ w1.frozen? ⟨w.heap.size, 1, none⟩ = false ∧ w1.frozen? ⟨w.heap.size, 2, none⟩ = false ∧ w.heap.size < w1.heap.size ∧ Below w.heap.size w w1 := by
  obtain ⟨hc, hf⟩ := bcell hb
  have hs := hb.size
  refine ⟨?_, ?_, ?_, ?_, ?_, ?_, by simp at hs; omega, ((Below.refl _ _).alloc (Nat.le_refl _) _).trans (hb.mono (by simp))⟩
  · rw [hc _ _ (by simp)]; simp
  · rw [hc _ _ (by simp)]; simp
  · rw [hc _ _ (by simp)]; simp
  · rw [hf _ _ (by simp)]; simp
  · rw [hf _ _ (by simp)]; simp
  · rw [hf _ _ (by simp)]; simp
theorem lim_bt (v : Value) (at_ c E : Int) (w : World) (hE : (E != 0) = true)
    (h : ∀ W, Below w.heap.size w W → Calls Tryz.prog 214 #[v, .int .i64 at_] W (BtTold (c, E) W)) :
    Calls Tryz.prog 180 #[v, .int .i64 at_] w (LmTold 0 0 false 0 E w) := by
  have H := Lib.hid h
  clear h
  go_enter Tryz.func180, Tryz.ntmps180
  go_wp2_with fail
  refine (H.out _ ((Below.refl _ _).alloc (Nat.le_refl _) _)).mono ?_
  rintro e w1 ⟨rfl, rfl⟩
  go_wp2_with fail
  refine bodyPost_ret (v := .tuple #[.agg #[.int .i64 0, .int .i64 0, .bool false], .int .i64 0, .int .i64 E]) (by simp [results, Tryz.results180, go_sem]) rfl ⟨rfl, ?_⟩
  repeat (first | exact Below.refl _ _ | refine Below.setCell ?_ (by simp) _ | refine Below.alloc ?_ (by simp) _)
theorem lim_form (v : Value) (at_ c : Int) (w : World) (hc : 1 < c)
    (h : ∀ W, Below w.heap.size w W → Calls Tryz.prog 214 #[v, .int .i64 at_] W (BtTold (c, 0) W)) :
    Calls Tryz.prog 180 #[v, .int .i64 at_] w (LmTold 0 0 false 0 3 w) := by
  have t0 : (c != 0) = true := by simp; omega
  have t1 : (c != 1) = true := by simp; omega
  have t2 : decide (1 < c) = true := decide_eq_true hc
  clear hc
  have H := Lib.hid h
  clear h
  go_enter Tryz.func180, Tryz.ntmps180
  go_wp2_with fail
  refine (H.out _ ((Below.refl _ _).alloc (Nat.le_refl _) _)).mono ?_
  rintro e w1 ⟨rfl, rfl⟩
  go_wp2_with fail
  refine bodyPost_ret (v := .tuple #[.agg #[.int .i64 0, .int .i64 0, .bool false], .int .i64 0, .int .i64 3]) (by simp [results, Tryz.results180, go_sem]) rfl ⟨rfl, ?_⟩
  repeat (first | exact Below.refl _ _ | refine Below.setCell ?_ (by simp) _ | refine Below.alloc ?_ (by simp) _)
theorem lim_1 (v : Value) (at_ c E : Int) (w : World) (hc : c = 0 ∨ c = 1) (hE : (E != 0) = true) (hat : IntKind.i64.wrap (at_ + 1) = at_ + 1)
    (h : ∀ W, Below w.heap.size w W → Calls Tryz.prog 214 #[v, .int .i64 at_] W (BtTold (c, 0) W))
    (hp : ∀ W, Below w.heap.size w W → Calls Tryz.prog 111 #[v, .int .i64 (at_ + 1), .int .i64 32] W (Leb.RTold W 0 0 E .u64)) :
    Calls Tryz.prog 180 #[v, .int .i64 at_] w (LmTold 0 0 false 0 E w) := by
  have t0 : ((c != 0) && (c != 1)) = false := by rcases hc with rfl | rfl <;> rfl
  rcases hc with rfl | rfl
  all_goals clear t0
  · have H := Lib.hid h
    have HP := Lib.hid hp
    clear h hp
    go_enter Tryz.func180, Tryz.ntmps180
    go_wp2_with fail
    refine (H.out _ ((Below.refl _ _).alloc (Nat.le_refl _) _)).mono ?_
    rintro e w1 ⟨rfl, rfl⟩
    go_wp2_with fail
    refine (HP.out _ ((Below.refl _ _).alloc (Nat.le_refl _) _)).mono ?_
    rintro e w2 ⟨rfl, hb⟩
    obtain ⟨c0, c1, c2, f0, f1, f2, hz, hb2⟩ := three_cells hb
    have HB := Lib.hid hb2
    clear hb hb2
    go_wp2_with fail
    refine bodyPost_ret (v := .tuple #[.agg #[.int .i64 0, .int .i64 0, .bool false], .int .i64 0, .int .i64 E]) (by simp [results, Tryz.results180, go_sem, c0, c1, c2]) rfl ⟨rfl, ?_⟩
    repeat (first | exact HB.out | refine Below.setCell ?_ (by simp) _ | refine Below.alloc ?_ (by simp) _)
  · have H := Lib.hid h
    have HP := Lib.hid hp
    clear h hp
    go_enter Tryz.func180, Tryz.ntmps180
    go_wp2_with fail
    refine (H.out _ ((Below.refl _ _).alloc (Nat.le_refl _) _)).mono ?_
    rintro e w1 ⟨rfl, rfl⟩
    go_wp2_with fail
    refine (HP.out _ ((Below.refl _ _).alloc (Nat.le_refl _) _)).mono ?_
    rintro e w2 ⟨rfl, hb⟩
    obtain ⟨c0, c1, c2, f0, f1, f2, hz, hb2⟩ := three_cells hb
    have HB := Lib.hid hb2
    clear hb hb2
    go_wp2_with fail
    refine bodyPost_ret (v := .tuple #[.agg #[.int .i64 0, .int .i64 0, .bool false], .int .i64 0, .int .i64 E]) (by simp [results, Tryz.results180, go_sem, c0, c1, c2]) rfl ⟨rfl, ?_⟩
    repeat (first | exact HB.out | refine Below.setCell ?_ (by simp) _ | refine Below.alloc ?_ (by simp) _)
theorem lim_0 (v : Value) (at_ n p : Int) (w : World) (hn : IntKind.i64.wrap n = n) (hat : IntKind.i64.wrap (at_ + 1) = at_ + 1)
    (h : ∀ W, Below w.heap.size w W → Calls Tryz.prog 214 #[v, .int .i64 at_] W (BtTold (0, 0) W))
    (hp : ∀ W, Below w.heap.size w W → Calls Tryz.prog 111 #[v, .int .i64 (at_ + 1), .int .i64 32] W (Leb.RTold W n p 0 .u64)) :
    Calls Tryz.prog 180 #[v, .int .i64 at_] w (LmTold n 0 false p 0 w) := by
  have H := Lib.hid h
  have HP := Lib.hid hp
  clear h hp
  go_enter Tryz.func180, Tryz.ntmps180
  go_wp2_with fail
  refine (H.out _ ((Below.refl _ _).alloc (Nat.le_refl _) _)).mono ?_
  rintro e w1 ⟨rfl, rfl⟩
  go_wp2_with fail
  refine (HP.out _ ((Below.refl _ _).alloc (Nat.le_refl _) _)).mono ?_
  rintro e w2 ⟨rfl, hb⟩
  obtain ⟨c0, c1, c2, f0, f1, f2, hz, hb2⟩ := three_cells hb
  have HB := Lib.hid hb2
  clear hb hb2
  go_wp2_with fail
  refine bodyPost_ret (v := .tuple #[.agg #[.int .i64 n, .int .i64 0, .bool false], .int .i64 p, .int .i64 0]) (by simp [results, Tryz.results180, go_sem, c0, c1, c2]) rfl ⟨rfl, ?_⟩
  repeat (first | exact HB.out | refine Below.setCell ?_ (by simp) _ | refine Below.alloc ?_ (by simp) _)
theorem lim_2 (v : Value) (at_ n p E : Int) (w : World) (hE : (E != 0) = true) (hat : IntKind.i64.wrap (at_ + 1) = at_ + 1)
    (h : ∀ W, Below w.heap.size w W → Calls Tryz.prog 214 #[v, .int .i64 at_] W (BtTold (1, 0) W))
    (hp : ∀ W, Below w.heap.size w W → Calls Tryz.prog 111 #[v, .int .i64 (at_ + 1), .int .i64 32] W (Leb.RTold W n p 0 .u64))
    (hr : ∀ W, Below w.heap.size w W → Calls Tryz.prog 111 #[v, .int .i64 p, .int .i64 32] W (Leb.RTold W 0 0 E .u64)) :
    Calls Tryz.prog 180 #[v, .int .i64 at_] w (LmTold 0 0 false 0 E w) := by
  have H := Lib.hid h
  have HP := Lib.hid hp
  have HR := Lib.hid hr
  clear h hp hr
  go_enter Tryz.func180, Tryz.ntmps180
  go_wp2_with fail
  refine (H.out _ ((Below.refl _ _).alloc (Nat.le_refl _) _)).mono ?_
  rintro e w1 ⟨rfl, rfl⟩
  go_wp2_with fail
  refine (HP.out _ ((Below.refl _ _).alloc (Nat.le_refl _) _)).mono ?_
  rintro e w2 ⟨rfl, hb⟩
  have HB := Lib.hid hb
  have HW := Lib.hid (three_cells hb).2.2.2.2.2.2.2
  clear hb
  go_wp2_with fail
  refine (HR.out _ HW.out).mono ?_
  rintro e w3 ⟨rfl, hb3⟩
  obtain ⟨c0, c1, c2, f0, f1, f2, hz, hb2⟩ := three_cells (HB.out.trans (hb3.mono HB.out.size))
  have HB3 := Lib.hid hb2
  clear hb2 hb3
  go_wp2_with fail
  refine bodyPost_ret (v := .tuple #[.agg #[.int .i64 0, .int .i64 0, .bool false], .int .i64 0, .int .i64 E]) (by simp [results, Tryz.results180, go_sem, c0, c1, c2]) rfl ⟨rfl, ?_⟩
  repeat (first | exact HB3.out | refine Below.setCell ?_ (by simp) _ | refine Below.alloc ?_ (by simp) _)
theorem lim_3 (v : Value) (at_ n p m q : Int) (w : World) (hn : IntKind.i64.wrap n = n) (hm : IntKind.i64.wrap m = m) (hat : IntKind.i64.wrap (at_ + 1) = at_ + 1)
    (h : ∀ W, Below w.heap.size w W → Calls Tryz.prog 214 #[v, .int .i64 at_] W (BtTold (1, 0) W))
    (hp : ∀ W, Below w.heap.size w W → Calls Tryz.prog 111 #[v, .int .i64 (at_ + 1), .int .i64 32] W (Leb.RTold W n p 0 .u64))
    (hr : ∀ W, Below w.heap.size w W → Calls Tryz.prog 111 #[v, .int .i64 p, .int .i64 32] W (Leb.RTold W m q 0 .u64)) :
    Calls Tryz.prog 180 #[v, .int .i64 at_] w (LmTold n m true q 0 w) := by
  have H := Lib.hid h
  have HP := Lib.hid hp
  have HR := Lib.hid hr
  clear h hp hr
  go_enter Tryz.func180, Tryz.ntmps180
  go_wp2_with fail
  refine (H.out _ ((Below.refl _ _).alloc (Nat.le_refl _) _)).mono ?_
  rintro e w1 ⟨rfl, rfl⟩
  go_wp2_with fail
  refine (HP.out _ ((Below.refl _ _).alloc (Nat.le_refl _) _)).mono ?_
  rintro e w2 ⟨rfl, hb⟩
  have HB := Lib.hid hb
  have HW := Lib.hid (three_cells hb).2.2.2.2.2.2.2
  clear hb
  go_wp2_with fail
  refine (HR.out _ HW.out).mono ?_
  rintro e w3 ⟨rfl, hb3⟩
  obtain ⟨c0, c1, c2, f0, f1, f2, hz, hb2⟩ := three_cells (HB.out.trans (hb3.mono HB.out.size))
  have HB3 := Lib.hid hb2
  clear hb2 hb3
  go_wp2_with fail
  refine bodyPost_ret (v := .tuple #[.agg #[.int .i64 n, .int .i64 m, .bool true], .int .i64 q, .int .i64 0]) (by simp [results, Tryz.results180, go_sem, c0, c1, c2]) rfl ⟨rfl, ?_⟩
  repeat (first | exact HB3.out | refine Below.setCell ?_ (by simp) _ | refine Below.alloc ?_ (by simp) _)
def lm2 (n : Nat) (k : Nat) : Leb.RU → Int × Int × Bool × Int × Int
  | .ok m j => ((n : Int), (m : Int), true, ((k + j / 7 : Nat) : Int), 0)
  | .short => (0, 0, false, 0, 2)
  | .form => (0, 0, false, 0, 3)
def lm1 (l : List Int) (c : Int) (k : Nat) : Leb.RU → Int × Int × Bool × Int × Int
  | .ok n j => if c = 0 then ((n : Int), 0, false, ((k + j / 7 : Nat) : Int), 0) else lm2 n (k + j / 7) (Leb.rdl Leb.fitU 32 (l.drop (k + j / 7)) 0 0)
  | .short => (0, 0, false, 0, 2)
  | .form => (0, 0, false, 0, 3)
def lm (l : List Int) (at_ : Int) : Int × Int × Bool × Int × Int := if (bt l at_).2 ≠ 0 then (0, 0, false, 0, (bt l at_).2) else if 1 < (bt l at_).1 then (0, 0, false, 0, 3) else lm1 l (bt l at_).1 (at_.toNat + 1) (Leb.rdl Leb.fitU 32 (l.drop (at_.toNat + 1)) 0 0)
def LmIs (x : Int × Int × Bool × Int × Int) (w : World) (e : Ending) (w' : World) : Prop := LmTold x.1 x.2.1 x.2.2.1 x.2.2.2.1 x.2.2.2.2 w e w'
def RdIs (k : Nat) (r : Leb.RU) (w : World) (e : Ending) (w' : World) : Prop := Leb.RTold w (Leb.uV r) (Leb.uP k r) (Leb.uE r) .u64 e w'
theorem uread_any (v : Value) (l : List Int) (k : Nat) (w : World) (hby : ∀ x ∈ l, 0 ≤ x ∧ x < 256) (hv : Sl w v l) (hl : l.length ≤ 1000000) (hk : k ≤ l.length) : Calls Tryz.prog 111 #[v, .int .i64 (k : Int), .int .i64 32] w (RdIs k (Leb.rdl Leb.fitU 32 (l.drop k) 0 0) w) := by
  have hv' := hv
  obtain ⟨A, c, rfl, _⟩ := hv'
  exact Leb.ReadU_is A c 32 k l w hv.leb hl (by255 hby) (by omega) (by omega) hk
theorem lim_any (v : Value) (l : List Int) (at_ : Int) (w : World) (hby : ∀ x ∈ l, 0 ≤ x ∧ x < 256) (hv : Sl w v l) (hl : l.length ≤ 1000000) :
    Calls Tryz.prog 180 #[v, .int .i64 at_] w (LmIs (lm l at_) w) := by
  have hB : ∀ W, Below w.heap.size w W → Calls Tryz.prog _ #[v, .int .i64 at_] W (BtTold (bt l at_) W) := fun W hW => byteAt_any v l at_ W (hv.keep hW) (by omega)
  unfold LmIs lm
  rcases bt_ways l at_ with ⟨hb, h⟩ | ⟨k, rfl, hk, hb⟩
  · rw [if_pos (show (bt l at_).2 ≠ 0 by omega)]
    refine lim_bt v at_ (bt l at_).1 _ w ?_ hB
    have : (bt l at_).2 ≠ 0 := by omega
    simpa using this
  · rw [hb] at hB
    rw [hb, if_neg (by simp)]
    have hc0 := hby (l.getD k 0) (by rw [List.getD_eq_getElem?_getD, List.getElem?_eq_getElem hk]; simp)
    by_cases h1 : 1 < l.getD k 0
    · rw [if_pos h1]
      exact lim_form v k _ w h1 hB
    · rw [if_neg h1, Int.toNat_natCast]
      have hat : IntKind.i64.wrap ((k : Int) + 1) = (k : Int) + 1 := IntWalk.i64_in _ (by omega)
      have hP : ∀ W, Below w.heap.size w W → Calls Tryz.prog _ #[v, .int .i64 ((k : Int) + 1), .int .i64 32] W (RdIs (k + 1) (Leb.rdl Leb.fitU 32 (l.drop (k + 1)) 0 0) W) := fun W hW => uread_any v l (k + 1) W hby (hv.keep hW) hl (by omega)
      cases hr : Leb.rdl Leb.fitU 32 (l.drop (k + 1)) 0 0 with
      | short => rw [hr] at hP; exact lim_1 v k _ 2 w (by omega) (by decide) hat hB hP
      | form => rw [hr] at hP; exact lim_1 v k _ 3 w (by omega) (by decide) hat hB hP
      | ok n j =>
        rw [hr] at hP
        have hn := (rdl32 (fun x hx => hby x (List.mem_of_mem_drop hx)) hr).1
        have hm := rdl_len _ _ _ _ _ hr
        rw [List.length_drop] at hm
        have hP : ∀ W, Below w.heap.size w W → Calls Tryz.prog _ #[v, .int .i64 ((k : Int) + 1), .int .i64 32] W (Leb.RTold W (n : Int) ((k + 1 + j / 7 : Nat) : Int) 0 .u64) := hP
        have hnw : IntKind.i64.wrap (n : Int) = (n : Int) := IntWalk.i64_in _ (by omega)
        by_cases h0 : l.getD k 0 = 0
        · rw [h0] at hB
          rw [show lm1 l (l.getD k 0, (0 : Int)).1 (k + 1) (.ok n j) = ((n : Int), 0, false, ((k + 1 + j / 7 : Nat) : Int), 0) from if_pos h0]
          exact lim_0 v k n _ w hnw hat hB hP
        · rw [show l.getD k 0 = 1 from by omega] at hB
          rw [show lm1 l (l.getD k 0, (0 : Int)).1 (k + 1) (.ok n j) = lm2 n (k + 1 + j / 7) (Leb.rdl Leb.fitU 32 (l.drop (k + 1 + j / 7)) 0 0) from if_neg h0]
          have hR : ∀ W, Below w.heap.size w W → Calls Tryz.prog _ #[v, .int .i64 ((k + 1 + j / 7 : Nat) : Int), .int .i64 32] W (RdIs (k + 1 + j / 7) (Leb.rdl Leb.fitU 32 (l.drop (k + 1 + j / 7)) 0 0) W) := fun W hW => uread_any v l (k + 1 + j / 7) W hby (hv.keep hW) hl (by omega)
          cases hr2 : Leb.rdl Leb.fitU 32 (l.drop (k + 1 + j / 7)) 0 0 with
          | short => rw [hr2] at hR; exact lim_2 v k n _ 2 w (by decide) hat hB hP hR
          | form => rw [hr2] at hR; exact lim_2 v k n _ 3 w (by decide) hat hB hP hR
          | ok m i =>
            rw [hr2] at hR
            have hm2 := (rdl32 (fun x hx => hby x (List.mem_of_mem_drop hx)) hr2).1
            exact lim_3 v k n _ m _ w hnw (IntWalk.i64_in _ (by omega)) hat hB hP hR
end Go.Proofs.YtffegkjlgeblbaaGreatDoor.Typ
end

section
/- Whether a function's type may be: by the program and by the document. -/
namespace Go.Proofs.YtffegkjlgeblbaaGreatDoor.Typ
open Go.RowKit
set_option maxRecDepth 100000
set_option maxHeartbeats 1000000

def allV (l : List Int) : Bool := l.all isV
theorem allV_step {l : List Int} {k : Nat} (h : k < l.length) : allV (l.drop k) = (isV (l.getD k 0) && allV (l.drop (k + 1))) := by rw [drop_cons h]; rfl
theorem allV_true {l : List Int} (h : allV l = true) : ∀ x ∈ l, isV x = true := fun x hx => List.all_eq_true.1 h x hx
theorem are_none (A : Option Addr) (c : Nat) (w : World) : Calls Tryz.prog 249 #[.slice A 0 c] w fun e w' => e = .returned (.bool true) ∧ w = w' := by
  go_enter Tryz.func249, Tryz.ntmps249
  go_wp2_with fail
  go_loop [7] (fun i => i = .int .i64 0) (fun _ => 0)
  case atStart => rfl
  case round =>
    subst hrel
    go_wp2_with fail
    go_ret
    exact ⟨rfl, rfl⟩
theorem ret_b {a b : Bool} (h : a = b) : Ending.returned (.bool a) = .returned (.bool b) := by rw [h]
theorem are_some (g off c : Nat) (l : List Int) (w : World) (hB : Byt w w.heap.size ⟨g, off, none⟩ l) (hl : l.length ≤ 1000000) : Calls Tryz.prog 249 #[.slice (some ⟨g, off, none⟩) l.length c] w fun e w' => e = .returned (.bool (allV l)) ∧ w = w' := by
  have HB := Lib.hid hB
  clear hB
  go_enter Tryz.func249, Tryz.ntmps249
  go_wp2_with fail
  go_loop [7] (fun i => ∃ k : Nat, k ≤ l.length ∧ i = .int .i64 (k : Int) ∧ allV (l.drop k) = allV l) (fun i => l.length - (intOf i).toNat)
  case atStart => exact ⟨0, Nat.zero_le _, rfl, rfl⟩
  case round =>
    obtain ⟨k, hk, rfl, ha⟩ := hrel
    have HA := Lib.hid ha
    clear ha
    by_cases hlt : k < l.length
    · have hcell := HB.out.2.2 k hlt
      have hst := Lib.hid (allV_step hlt)
      have HV := Lib.hid (isVal_any (l.getD k 0) w)
      revert hcell hst HV
      generalize l.getD k 0 = y
      intro hcell hst HV
      cases hc : isV y with
      | true =>
        rw [hc] at HV hst
        clear hc
        go_wp2_with fail
        refine HV.out.mono ?_
        rintro e w2 ⟨rfl, rfl⟩
        go_wp2_with fail
        go_round
        case rel => exact ⟨k + 1, by omega, by go_num, by rw [← HA.out, hst.out]; rfl⟩
        case measure => simp [intOf]; omega
      | false =>
        rw [hc] at HV hst
        clear hc
        go_wp2_with fail
        refine HV.out.mono ?_
        rintro e w2 ⟨rfl, rfl⟩
        go_wp2_with fail
        go_ret
        exact ⟨ret_b (by rw [← HA.out, hst.out]; rfl), rfl⟩
    · obtain rfl : k = l.length := by omega
      go_wp2_with fail
      go_ret
      exact ⟨ret_b (by rw [← HA.out, List.drop_length]; rfl), rfl⟩
theorem are_any (v : Value) (l : List Int) (w : World) (hv : Sl w v l) (hl : l.length ≤ 1000000) : Calls Tryz.prog 249 #[v] w fun e w' => e = .returned (.bool (allV l)) ∧ w = w' := by
  obtain ⟨A, c, rfl, _, _, h4⟩ := hv
  by_cases h0 : l = []
  · subst h0
    exact are_none A c w
  · obtain ⟨g, off, rfl, hB⟩ := h4 h0
    exact are_some g off c l w hB hl
def sane (p r : List Int) : Bool := bif decide (p.length ≤ 16) then (bif decide (r.length ≤ 1) then (bif allV p then allV r else false) else false) else false
theorem sane_any (v u : Value) (p r : List Int) (w : World) (hv : Sl w v p) (hu : Sl w u r) (hp : p.length ≤ 1000000) (hr : r.length ≤ 1000000) : Calls Tryz.prog 224 #[.agg #[v, u]] w fun e w' => e = .returned (.bool (sane p r)) ∧ Below w.heap.size w w' := by
  have HV := Lib.hid (fun W (hW : Below w.heap.size w W) => are_any v p W (hv.keep hW) hp)
  have HU := Lib.hid (fun W (hW : Below w.heap.size w W) => are_any u r W (hu.keep hW) hr)
  obtain ⟨A, c, rfl, _⟩ := hv
  obtain ⟨A2, c2, rfl, _⟩ := hu
  unfold sane
  by_cases h1 : p.length ≤ 16
  · rw [decide_eq_true h1]
    have t1 : decide ((p.length : Int) ≤ 16) = true := by simp; omega
    by_cases h2 : r.length ≤ 1
    · rw [decide_eq_true h2]
      have t2 : decide ((r.length : Int) ≤ 1) = true := by simp; omega
      clear h1 h2
      cases ha : allV p with
      | true =>
        rw [ha] at HV
        clear ha
        generalize hb : allV r = b at *
        clear hb
        go_enter Tryz.func224, Tryz.ntmps224
        go_wp2_with fail
        refine (HV.out _ (by repeat (first | exact Below.refl _ _ | refine Below.alloc ?_ (by simp) _))).mono ?_
        rintro e w2 ⟨rfl, rfl⟩
        go_wp2_with fail
        refine (HU.out _ (by repeat (first | exact Below.refl _ _ | refine Below.alloc ?_ (by simp) _))).mono ?_
        rintro e w3 ⟨rfl, rfl⟩
        go_wp2_with fail
        go_ret
        exact ⟨rfl, by repeat (first | exact Below.refl _ _ | refine Below.alloc ?_ (by simp) _)⟩
      | false =>
        rw [ha] at HV
        clear ha
        go_enter Tryz.func224, Tryz.ntmps224
        go_wp2_with fail
        refine (HV.out _ (by repeat (first | exact Below.refl _ _ | refine Below.alloc ?_ (by simp) _))).mono ?_
        rintro e w2 ⟨rfl, rfl⟩
        go_wp2_with fail
        go_ret
        exact ⟨rfl, by repeat (first | exact Below.refl _ _ | refine Below.alloc ?_ (by simp) _)⟩
    · rw [decide_eq_false h2]
      have t2 : decide ((r.length : Int) ≤ 1) = false := by simp; omega
      clear h1 h2
      go_enter Tryz.func224, Tryz.ntmps224
      go_wp2_with fail
      go_ret
      exact ⟨rfl, by repeat (first | exact Below.refl _ _ | refine Below.alloc ?_ (by simp) _)⟩
  · rw [decide_eq_false h1]
    have t1 : decide ((p.length : Int) ≤ 16) = false := by simp; omega
    clear h1
    go_enter Tryz.func224, Tryz.ntmps224
    go_wp2_with fail
    go_ret
    exact ⟨rfl, by repeat (first | exact Below.refl _ _ | refine Below.alloc ?_ (by simp) _)⟩
end Go.Proofs.YtffegkjlgeblbaaGreatDoor.Typ
end

section
/- A function's type, laid: by the program and by the document. -/
namespace Go.Proofs.YtffegkjlgeblbaaGreatDoor.Typ
open Go.RowKit
set_option maxRecDepth 100000
set_option maxHeartbeats 1000000

def LaidE (x : List Int) (n : Int) (w : World) (e : Ending) (w' : World) : Prop := ∃ v, e = .returned (.tuple #[v, .int .i64 n]) ∧ Sl w' v x ∧ Below w.heap.size w w'
theorem own_sl {w : World} {B : Nat} {v : Value} {l : List Int} (h : Leb.Own w B v l) : Sl w v l := OwnB.sl (show OwnB w B v l from h.2)
theorem own_base {w : World} {B B' : Nat} {v : Value} {l : List Int} (h : Leb.Own w B v l) (hB : B' ≤ B) : Leb.Own w B' v l := ⟨h.1, OwnB.base (show OwnB w B v l from h.2) hB⟩
theorem uB_small_len (l : List Int) (h : l.length ≤ 100000) : (Leb.uB l.length).length ≤ 10 := by
  rw [Leb.uB_len]
  exact Leb.lenU_ten (by omega)
theorem new_byt (w : World) (x : Int) : Leb.Byt (w.alloc (.cells #[.int .u8 x] 5)) (w.alloc (.cells #[.int .u8 x] 5)).heap.size (some ⟨w.heap.size, 0, none⟩) [x] := fun _ => ⟨_, rfl, by simp, Leb.one_new w _⟩
theorem putVals_any (A A2 : Option Addr) (c c2 : Nat) (b l : List Int) (w : World) (hA : Leb.Byt w w.heap.size A b) (hA2 : Leb.Byt w w.heap.size A2 l) (hb : b.length ≤ 100000) (hl : l.length ≤ 100000) :
    Calls Tryz.prog 225 #[.slice A b.length c, .slice A2 l.length c2] w (Leb.Laid w (b ++ Leb.uB l.length ++ l)) := by
  have HU := Lib.hid (Leb.U_any A c l.length b w hA (by omega) (by omega))
  have HA2 := Lib.hid hA2
  have hw : IntKind.u64.wrap (l.length : Int) = (l.length : Int) := by rw [IntKind.wrap_u64]; omega
  have hlen : Hid ((b ++ Leb.uB l.length).length + l.length ≤ 10000000) := by
    show _ ≤ _
    have := uB_small_len l hl
    rw [List.length_append]
    omega
  clear hA hA2
  go_enter Tryz.func225, Tryz.ntmps225
  go_wp2_with fail
  refine HU.out.mono ?_
  rintro e w1 ⟨v1, rfl, ho1, hb1⟩
  have HO := Lib.hid ho1
  have HB := Lib.hid hb1
  have hsz : w.heap.size ≤ w1.heap.size := hb1.size
  clear ho1 hb1
  go_wp2_with (at_builtin; refine Leb.wp_bytes w1 rfl (.tmp 9) (.tmp 10) rfl w.heap.size w.heap.size _ (b ++ Leb.uB l.length) l rfl HO.out A2 c2 rfl (HA2.out.keep HB.out) hlen.out hsz ?_; intro v2 w2 ho2 hb2)
  go_ret
  exact ⟨_, rfl, ho2, HB.out.trans hb2⟩
def fnB (p r : List Int) : List Int := [96] ++ Leb.uB p.length ++ p ++ Leb.uB r.length ++ r
theorem sane_parts {p r : List Int} (h : sane p r = true) : p.length ≤ 16 ∧ r.length ≤ 1 ∧ allV p = true ∧ allV r = true := by
  unfold sane at h
  by_cases h1 : p.length ≤ 16
  · by_cases h2 : r.length ≤ 1
    · rw [decide_eq_true h1, decide_eq_true h2] at h
      cases h3 : allV p with
      | true => rw [h3] at h; exact ⟨h1, h2, rfl, h⟩
      | false => rw [h3] at h; cases h
    · rw [decide_eq_true h1, decide_eq_false h2] at h; cases h
  · rw [decide_eq_false h1] at h; cases h
def PfIs (b p r : List Int) (w : World) (e : Ending) (w' : World) : Prop := bif sane p r then LaidE (b ++ fnB p r) 0 w e w' else e = .returned (.tuple #[.slice none 0 0, .int .i64 1]) ∧ Below w.heap.size w w'
theorem putFunc_no (v x y : Value) (b p r : List Int) (w : World) (hx : Sl w x p) (hy : Sl w y r) (hp : p.length ≤ 100000) (hr : r.length ≤ 100000) (h : sane p r = false) : Calls Tryz.prog 190 #[v, .agg #[x, y]] w (PfIs b p r w) := by
  unfold PfIs
  rw [h]
  obtain ⟨A1, c1, rfl, _⟩ := id hx
  obtain ⟨A2, c2, rfl, _⟩ := id hy
  have hW : Below w.heap.size w (w.alloc (.cells #[.slice A1 p.length c1, .slice A2 r.length c2] 95)) := (Below.refl _ _).alloc (Nat.le_refl _) _
  have HS := Lib.hid (sane_any _ _ p r _ (hx.keep hW) (hy.keep hW) (by omega) (by omega))
  rw [h] at HS
  have HW := Lib.hid hW
  clear hx hy h hW
  go_enter Tryz.func190, Tryz.ntmps190
  go_wp2_with fail
  refine HS.out.mono ?_
  rintro e w1 ⟨rfl, hb⟩
  have HB := Lib.hid (HW.out.trans (hb.mono HW.out.size))
  clear hb
  go_wp2_with fail
  go_ret2
  exact ⟨rfl, HB.out⟩
theorem putFunc_core (A0 A1 A2 : Option Addr) (nb np nr c0 c1 c2 : Nat) (L2 L3 L4 : List Int) (w : World)
    (h0 : ∀ W, Below w.heap.size w W → Calls Tryz.prog 224 #[.agg #[.slice A1 np c1, .slice A2 nr c2]] W fun e w' => e = .returned (.bool true) ∧ Below W.heap.size W w')
    (h1 : ∀ W, Below w.heap.size w W → Calls Tryz.prog 225 #[.slice (some ⟨W.heap.size, 0, none⟩) 1 1, .slice A1 np c1] (W.alloc (.cells #[.int .u8 96] 5)) (Leb.Laid (W.alloc (.cells #[.int .u8 96] 5)) L2))
    (h2 : ∀ W g n d, Below w.heap.size w W → Leb.Own W w.heap.size (.slice (some ⟨g, 0, none⟩) n d) L2 → Calls Tryz.prog 225 #[.slice (some ⟨g, 0, none⟩) n d, .slice A2 nr c2] W (Leb.Laid W L3))
    (h3 : ∀ W g n d, Below w.heap.size w W → Leb.Own W w.heap.size (.slice (some ⟨g, 0, none⟩) n d) L3 → Calls Tryz.prog 226 #[.slice (some ⟨W.heap.size, 0, none⟩) 2 2] (W.alloc (.cells #[.slice A0 nb c0, .slice (some ⟨g, 0, none⟩) n d] 22)) (Leb.Laid (W.alloc (.cells #[.slice A0 nb c0, .slice (some ⟨g, 0, none⟩) n d] 22)) L4)) :
    Calls Tryz.prog 190 #[.slice A0 nb c0, .agg #[.slice A1 np c1, .slice A2 nr c2]] w (LaidE L4 0 w) := by
  have hW : Below w.heap.size w (w.alloc (.cells #[.slice A1 np c1, .slice A2 nr c2] 95)) := (Below.refl _ _).alloc (Nat.le_refl _) _
  have HS := Lib.hid (h0 _ hW)
  have H1 := Lib.hid h1
  have H2 := Lib.hid h2
  have H3 := Lib.hid h3
  clear h0 h1 h2 h3 hW
  go_enter Tryz.func190, Tryz.ntmps190
  go_wp2_with fail
  refine HS.out.mono ?_
  rintro e w1 ⟨rfl, hb1⟩
  obtain ⟨k0, k1, f0, f1, hz, hb2⟩ := two_cells hb1
  have HB := Lib.hid hb2
  clear hb1 hb2
  go_wp2_with fail
  refine (H1.out _ HB.out).mono ?_
  rintro e w2 ⟨v2, rfl, ho2, hb2⟩
  have HB2 := Lib.hid (((Below.refl w1.heap.size w1).alloc (Nat.le_refl _) (.cells #[.int .u8 96] 5)).trans (hb2.mono (by simp)))
  have k1 := (HB2.out.cell (p := ⟨w.heap.size, 1, none⟩) hz).trans k1
  have hz2 : w.heap.size < w2.heap.size := Nat.lt_of_lt_of_le hz HB2.out.size
  have HW2 := Lib.hid (HB.out.trans (HB2.out.mono (Nat.le_of_lt hz)))
  have HO2 := Lib.hid (own_base ho2 (B' := w.heap.size) (by simp; omega))
  obtain ⟨⟨g2, d2, rfl⟩, _⟩ := ho2
  clear hb2 k0
  go_wp2_with fail
  refine (H2.out _ _ _ _ HW2.out HO2.out).mono ?_
  rintro e w3 ⟨v3, rfl, ho3, hb3⟩
  have HW3 := Lib.hid (HW2.out.trans (hb3.mono (Nat.le_of_lt hz2)))
  have HO3 := Lib.hid (own_base ho3 (B' := w.heap.size) (by omega))
  obtain ⟨⟨g3, d3, rfl⟩, _⟩ := ho3
  clear hb3
  go_wp2_with fail
  refine (H3.out _ _ _ _ HW3.out HO3.out).mono ?_
  rintro e w4 ⟨v4, rfl, ho4, hb4⟩
  have HS4 := Lib.hid (own_sl ho4)
  have HB4 := Lib.hid (HW3.out.trans (((Below.refl w3.heap.size w3).alloc (Nat.le_refl _) (.cells #[.slice A0 nb c0, .slice (some ⟨g3, 0, none⟩) L3.length d3] 22)).trans (hb4.mono (by simp)) |>.mono HW3.out.size))
  obtain ⟨⟨g4, d4, rfl⟩, _⟩ := ho4
  clear hb4
  go_wp2_with fail
  go_ret2
  exact ⟨_, rfl, HS4.out, HB4.out⟩
theorem own_len {w : World} {B n d g : Nat} {l : List Int} (h : Leb.Own w B (.slice (some ⟨g, 0, none⟩) n d) l) : n = l.length := by
  obtain ⟨⟨_, _, e⟩, _⟩ := h
  injection e
theorem putFunc_yes (v x y : Value) (b p r : List Int) (w : World) (hv : Sl w v b) (hx : Sl w x p) (hy : Sl w y r) (hb : b.length ≤ 10000) (h : sane p r = true) : Calls Tryz.prog 190 #[v, .agg #[x, y]] w (PfIs b p r w) := by
  unfold PfIs
  rw [h]
  obtain ⟨q1, q2, _, _⟩ := sane_parts h
  obtain ⟨A0, c0, rfl, _⟩ := id hv
  obtain ⟨A1, c1, rfl, _⟩ := id hx
  obtain ⟨A2, c2, rfl, _⟩ := id hy
  have l1 := uB_small_len p (by omega)
  have l2 := uB_small_len r (by omega)
  have hl2 : ([96] ++ Leb.uB p.length ++ p).length ≤ 1000 := by
    rw [List.length_append, List.length_append]
    simp
    omega
  have hl3 : ([96] ++ Leb.uB p.length ++ p ++ Leb.uB r.length ++ r).length ≤ 2000 := by
    simp only [List.length_append] at hl2 ⊢
    omega
  refine putFunc_core A0 A1 A2 _ _ _ c0 c1 c2 ([96] ++ Leb.uB p.length ++ p) (fnB p r) (b ++ fnB p r) w (fun W hW => ?_) (fun W hW => ?_) (fun W g n d hW ho => ?_) (fun W g n d hW ho => ?_)
  · have := sane_any _ _ p r W (hx.keep hW) (hy.keep hW) (by omega) (by omega)
    rwa [h] at this
  · exact putVals_any (some ⟨W.heap.size, 0, none⟩) A1 1 c1 [96] p _ (new_byt W 96) ((hx.keep hW).keep ((Below.refl _ _).alloc (Nat.le_refl _) _)).leb (by simp) (by omega)
  · obtain rfl := own_len ho
    exact putVals_any (some ⟨g, 0, none⟩) A2 d c2 _ r W ho.byt (hy.keep hW).leb (by omega) (by omega)
  · obtain rfl := own_len ho
    have hM : Below W.heap.size W (W.alloc (.cells #[.slice A0 b.length c0, .slice (some ⟨g, 0, none⟩) (fnB p r).length d] 22)) := (Below.refl _ _).alloc (Nat.le_refl _) _
    refine concat_any W.heap.size A0 (some ⟨g, 0, none⟩) c0 d b (fnB p r) _ (by simp) (by simp) (by simp) ((hv.keep hW).keep hM).leb ((ho.byt.keep hM).mono hM.size) (by omega) (by unfold fnB; omega) ?_
    have : 1 ≤ (fnB p r).length := by unfold fnB; simp
    omega
theorem putFunc_any (v x y : Value) (b p r : List Int) (w : World) (hv : Sl w v b) (hx : Sl w x p) (hy : Sl w y r) (hb : b.length ≤ 10000) (hp : p.length ≤ 100000) (hr : r.length ≤ 100000) : Calls Tryz.prog 190 #[v, .agg #[x, y]] w (PfIs b p r w) := by
  cases h : sane p r with
  | true => exact putFunc_yes v x y b p r w hv hx hy hb h
  | false => exact putFunc_no v x y b p r w hx hy hp hr h
end Go.Proofs.YtffegkjlgeblbaaGreatDoor.Typ
end

section
/- Whether limits keep to others: by the program and by the document. -/
namespace Go.Proofs.YtffegkjlgeblbaaGreatDoor.Typ
open Go.RowKit
set_option maxRecDepth 100000
set_option maxHeartbeats 1000000

def lv (a b : Int) (h : Bool) : Value := .agg #[.int .i64 a, .int .i64 b, .bool h]
def NarTold (x : Value) (w : World) (e : Ending) (w' : World) : Prop := e = .returned x ∧ Below w.heap.size w w'
end Go.Proofs.YtffegkjlgeblbaaGreatDoor.Typ
end

section
/- The program's Within. -/
namespace Go.Proofs.YtffegkjlgeblbaaGreatDoor.Typ
open Go.RowKit
set_option maxRecDepth 100000
set_option maxHeartbeats 1000000

theorem run_lv (a b : Int) (h : Bool) (g : Nat) (W : World) (h0 : W.cell? ⟨g, 0, none⟩ = some (.int .i64 a)) (h1 : W.cell? ⟨g, 1, none⟩ = some (.int .i64 b)) (h2 : W.cell? ⟨g, 2, none⟩ = some (.bool h)) : (Instr.loadAt 61 (.pointer (some ⟨g, 0, none⟩))).run Tryz.prog W = .ok (lv a b h) W := by
  unfold lv
  go_simp
def LvAt (w : World) (g : Nat) (a b : Int) (h : Bool) : Prop := g < w.heap.size ∧ w.cell? ⟨g, 0, none⟩ = some (.int .i64 a) ∧ w.cell? ⟨g, 1, none⟩ = some (.int .i64 b) ∧ w.cell? ⟨g, 2, none⟩ = some (.bool h)
theorem LvAt.keep {w W : World} {g : Nat} {a b : Int} {h : Bool} (x : LvAt w g a b h) (hb : Below w.heap.size w W) : LvAt W g a b h := by
  obtain ⟨h0, h1, h2, h3⟩ := x
  exact ⟨Nat.lt_of_lt_of_le h0 hb.size, by rw [hb.cell (p := ⟨g, 0, none⟩) h0]; exact h1, by rw [hb.cell (p := ⟨g, 1, none⟩) h0]; exact h2, by rw [hb.cell (p := ⟨g, 2, none⟩) h0]; exact h3⟩
theorem LvAt.run {W : World} {g : Nat} {a b : Int} {h : Bool} (x : LvAt W g a b h) : (Instr.loadAt 61 (.pointer (some ⟨g, 0, none⟩))).run Tryz.prog W = .ok (lv a b h) W := run_lv a b h g W x.2.1 x.2.2.1 x.2.2.2
theorem LvAt.new (w : World) (a b : Int) (h : Bool) (t : TypeId) : LvAt (w.alloc (.cells #[.int .i64 a, .int .i64 b, .bool h] t)) w.heap.size a b h := ⟨by simp, by simp, by simp, by simp⟩
end Go.Proofs.YtffegkjlgeblbaaGreatDoor.Typ
end

section
/- Limits, laid: by the program and by the document. -/
namespace Go.Proofs.YtffegkjlgeblbaaGreatDoor.Typ
open Go.RowKit
set_option maxRecDepth 100000
set_option maxHeartbeats 1000000

def u32 (x : Int) : Int := x % 4294967296
def lo (a b : Int) (h : Bool) : Value := lv (u32 a) (bif h then u32 b else 0) h
theorem laidOf_any (a b : Int) (h : Bool) (w : World) : Calls Tryz.prog 227 #[lv a b h] w (NarTold (lo a b h) w) := by
  unfold lo lv
  cases h with
  | false =>
    go_enter Tryz.func227, Tryz.ntmps227
    go_wp2_with fail
    refine bodyPost_ret (v := .agg #[.int .i64 (u32 a), .int .i64 0, .bool false]) (by simp [results, Tryz.results227, go_sem, u32]) rfl ⟨rfl, ?_⟩
    repeat (first | exact Below.refl _ _ | refine Below.setCell ?_ (by first | (simp; done) | (simp; omega)) _ | refine Below.alloc ?_ (by first | (simp; done) | (simp; omega)) _)
  | true =>
    go_enter Tryz.func227, Tryz.ntmps227
    go_wp2_with fail
    refine bodyPost_ret (v := .agg #[.int .i64 (u32 a), .int .i64 (u32 b), .bool true]) (by simp [results, Tryz.results227, go_sem, u32]) rfl ⟨rfl, ?_⟩
    repeat (first | exact Below.refl _ _ | refine Below.setCell ?_ (by first | (simp; done) | (simp; omega)) _ | refine Below.alloc ?_ (by first | (simp; done) | (simp; omega)) _)
def okL (a b : Int) (h : Bool) : Bool := a == u32 a && (b == (bif h then u32 b else 0) && h == h)
theorem okL_iff {a b : Int} {h : Bool} : okL a b h = true ↔ 0 ≤ a ∧ a ≤ 4294967295 ∧ 0 ≤ b ∧ b ≤ 4294967295 ∧ (h = false → b = 0) := by
  unfold okL u32
  cases h <;> simp <;> omega
def limB (a b : Int) (h : Bool) : List Int := bif h then [1] ++ Leb.uB a.toNat ++ Leb.uB b.toNat else [0] ++ Leb.uB a.toNat
def PlIs (l : List Int) (a b : Int) (h : Bool) (w : World) (e : Ending) (w' : World) : Prop := bif okL a b h then LaidE (l ++ limB a b h) 0 w e w' else e = .returned (.tuple #[.slice none 0 0, .int .i64 1]) ∧ Below w.heap.size w w'
theorem ne_lv (x y : Operand) (a0 a1 b0 b1 : Int) (ha hb : Bool) (W : World) : (do eqGuard BinOp.neq 61 x y (lv a0 a1 ha) (lv b0 b1 hb); binOp BinOp.neq 61 (lv a0 a1 ha) (lv b0 b1 hb) : Sem Value).run Tryz.prog W = .ok (.bool (!(a0 == b0 && (a1 == b1 && ha == hb)))) W := by
  unfold lv
  go_simp
  by_cases h0 : a0 = b0
  · by_cases h1 : a1 = b1
    · by_cases h2 : ha = hb
      · simp [h0, h1, h2]
      · simp [h0, h1, h2]
    · simp [h0, h1]
  · simp [h0]
theorem putLim_no (v : Value) (l : List Int) (a b : Int) (h : Bool) (w : World) (ho : okL a b h = false) : Calls Tryz.prog 200 #[v, lv a b h] w (PlIs l a b h w) := by
  unfold PlIs
  rw [ho]
  have HN := Lib.hid (fun W => laidOf_any a b h W)
  have HE := Lib.hid (fun x y W => ne_lv x y a b (u32 a) (bif h then u32 b else 0) h h W)
  rw [show (a == u32 a && (b == (bif h then u32 b else 0) && h == h)) = false from ho] at HE
  rw [show lv (u32 a) (bif h then u32 b else 0) h = lo a b h from rfl] at HE
  have HA := Lib.hid (LvAt.new w a b h 61)
  have HW : Hid (Below w.heap.size w (w.alloc (.cells #[.int .i64 a, .int .i64 b, .bool h] 61))) := (Below.refl _ _).alloc (Nat.le_refl _) _
  generalize lo a b h = N at *
  clear ho
  unfold lv at *
  go_enter Tryz.func200, Tryz.ntmps200
  go_wp2_with fail
  refine Stab.region 35 [.is (lv a b h), .is (lv a b h), .is N, .is (.bool true)] (by kernel_rfl) (by kernel_rfl) rfl rfl ?_ ?_
  · repeat' (first | exact Stab.steps_nil | with_reducible refine Stab.steps_cons ?_ ?_ ?_)
    all_goals first
      | exact trivial
      | exact Stab.owes_load rfl (fun v W hb hv => by subst hv; exact (HA.out.keep hb).run) rfl
      | exact Stab.owes_bin rfl rfl rfl (fun W => HE.out _ _ W) rfl
      | (refine Stab.owes_call Tryz.func227 (by kernel_rfl) (by kernel_rfl) rfl (fun vs W hb hall => ?_) rfl; obtain ⟨_, _, rfl, rfl, rfl⟩ := hall; refine (HN.out W).mono ?_; rintro e w2 ⟨rfl, hb2⟩; exact ⟨_, rfl, hb2, rfl⟩)
  · intro W hb _
    simp only [Act.put, List.setIfInBounds_toArray, List.set_cons_succ, List.set_cons_zero]
    go_wp2
    go_ret2
    exact ⟨rfl, HW.out.trans (hb.mono HW.out.size)⟩
end Go.Proofs.YtffegkjlgeblbaaGreatDoor.Typ
end
