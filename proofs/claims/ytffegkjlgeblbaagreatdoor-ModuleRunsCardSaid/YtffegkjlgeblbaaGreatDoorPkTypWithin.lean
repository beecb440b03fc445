/- TypAt, TypVals, TypFunc, TypLim, TypCat, TypPutF, TypWithin. -/
import Derived.Test.YtffegkjlgeblbaaGreatDoorPkInsPReader
import Derived.Test.YtffegkjlgeblbaaGreatDoorLebTwo
import Derived.Lib.AppendZerosOnto
import Derived.Lib.SliceRun
section
/- The byte at a place, and a value's type there: by the program and by the document. -/
namespace Go.Proofs.YtffegkjlgeblbaaGreatDoor.Typ
open Go.RowKit
set_option maxRecDepth 100000
set_option maxHeartbeats 1000000

/-- The byte at a place, and the error. -/
def bt (l : List Int) (at_ : Int) : Int × Int := if at_ < 0 ∨ (l.length : Int) < at_ then (0, 1) else if at_ = (l.length : Int) then (0, 2) else (l.getD at_.toNat 0, 0)
theorem bt_bad {l : List Int} {at_ : Int} (h : at_ < 0 ∨ (l.length : Int) < at_) : bt l at_ = (0, 1) := if_pos h
theorem bt_end {l : List Int} {at_ : Int} (h : at_ = (l.length : Int)) : bt l at_ = (0, 2) := (if_neg (by omega)).trans (if_pos h)
theorem bt_in {l : List Int} {k : Nat} (h : k < l.length) : bt l (k : Int) = (l.getD k 0, 0) := by
  unfold bt
  rw [if_neg (by omega), if_neg (by omega), Int.toNat_natCast]
/-- A byte and an error are told; nothing is turned. -/
def BtTold (x : Int × Int) (w : World) (e : Ending) (w' : World) : Prop := e = .returned (.tuple #[.int .u8 x.1, .int .i64 x.2]) ∧ w = w'
theorem byteAt_any (v : Value) (l : List Int) (at_ : Int) (w : World) (hv : Sl w v l) (_hl : l.length ≤ 9223372036854775806) : Calls Tryz.prog 214 #[v, .int .i64 at_] w (BtTold (bt l at_) w) := by
  obtain ⟨A, c, rfl, h2, h3, h4⟩ := hv
  by_cases ha : at_ < 0
  · rw [bt_bad (.inl ha)]
    have t0 : decide (at_ < 0) = true := decide_eq_true ha
    clear h4
    go_enter Tryz.func214, Tryz.ntmps214
    go_wp2
    go_ret2
    exact ⟨rfl, rfl⟩
  · have t0 : decide (at_ < 0) = false := decide_eq_false ha
    by_cases hb : (l.length : Int) < at_
    · rw [bt_bad (.inr hb)]
      have t1 : decide ((l.length : Int) < at_) = true := decide_eq_true hb
      clear h4
      go_enter Tryz.func214, Tryz.ntmps214
      go_wp2
      go_ret2
      exact ⟨rfl, rfl⟩
    · have t1 : decide ((l.length : Int) < at_) = false := decide_eq_false hb
      by_cases hc : at_ = (l.length : Int)
      · subst hc
        rw [bt_end rfl]
        clear h4 ha hb
        go_enter Tryz.func214, Tryz.ntmps214
        go_wp2
        go_ret2
        exact ⟨rfl, rfl⟩
      · obtain ⟨k, rfl⟩ := Int.eq_ofNat_of_zero_le (show 0 ≤ at_ by omega)
        have hk : k < l.length := by omega
        have t2 : ((k : Int) == (l.length : Int)) = false := by simp; omega
        obtain ⟨g, off, rfl, hB⟩ := h4 (fun e => by rw [e] at hk; simp at hk)
        have hcell := hB.2.2 k hk
        rw [bt_in hk]
        generalize l.getD k 0 = y at *
        clear hB ha hb hc h4
        go_enter Tryz.func214, Tryz.ntmps214
        go_wp2
        go_ret2
        exact ⟨rfl, rfl⟩
/-- Is a byte a value's type? -/
def isV (c : Int) : Bool := decide (c = 127 ∨ c = 126)
/-- A value's type at a place. -/
def vl (l : List Int) (at_ : Int) : Int × Int × Int := if (bt l at_).2 ≠ 0 then (0, 0, (bt l at_).2) else bif isV (bt l at_).1 then ((bt l at_).1, at_ + 1, 0) else (0, 0, 3)
theorem bt_ways (l : List Int) (at_ : Int) : ((bt l at_).1 = 0 ∧ ((bt l at_).2 = 1 ∨ (bt l at_).2 = 2)) ∨ (∃ k : Nat, at_ = (k : Int) ∧ k < l.length ∧ bt l at_ = (l.getD k 0, 0)) := by
  by_cases h1 : at_ < 0 ∨ (l.length : Int) < at_
  · rw [bt_bad h1]; exact .inl ⟨rfl, .inl rfl⟩
  · by_cases h2 : at_ = (l.length : Int)
    · rw [bt_end h2]; exact .inl ⟨rfl, .inr rfl⟩
    · obtain ⟨k, rfl⟩ := Int.eq_ofNat_of_zero_le (show 0 ≤ at_ by omega)
      exact .inr ⟨k, rfl, by omega, bt_in (by omega)⟩
end Go.Proofs.YtffegkjlgeblbaaGreatDoor.Typ
end

section
/- Values' types behind how many they are: by the program and by the document. -/
namespace Go.Proofs.YtffegkjlgeblbaaGreatDoor.Typ
open Go.RowKit
set_option maxRecDepth 100000
set_option maxHeartbeats 1000000

/-- Why bytes do not begin with so many values' types: 0, if they do. -/
def vbad : List Int → Nat → Int
  | _, 0 => 0
  | [], _ + 1 => 2
  | c :: r, n + 1 => bif isV c then vbad r n else 3
theorem drop_cons {l : List Int} {k : Nat} (h : k < l.length) : l.drop k = l.getD k 0 :: l.drop (k + 1) := by
  rw [List.drop_eq_getElem_cons h]
  simp [h]
/-- Values' types, the place behind, the error. -/
def vsN (l : List Int) (p n : Nat) (M : Int) : List Int × Int × Int := if M < (n : Int) then ([], 0, 4) else if vbad (l.drop p) n = 0 then ((l.drop p).take n, ((p + n : Nat) : Int), 0) else ([], 0, vbad (l.drop p) n)
def vs (l : List Int) (k : Nat) (M : Int) : List Int × Int × Int := match Leb.rdl Leb.fitU 32 (l.drop k) 0 0 with
  | .ok n m => vsN l (k + m / 7) n M
  | .short => ([], 0, 2)
  | .form => ([], 0, 3)
def VsTold (x : List Int × Int × Int) (w : World) (e : Ending) (w' : World) : Prop := ∃ o, e = .returned (.tuple #[o, .int .i64 x.2.1, .int .i64 x.2.2]) ∧ OwnB w' w.heap.size o x.1 ∧ Below w.heap.size w w'
theorem VsTold.mk {x : List Int × Int × Int} {w w' : World} {o : Value} {a b : Int} (h : OwnB w' w.heap.size o x.1) (h1 : x.2.1 = a) (h2 : x.2.2 = b) (hb : Below w.heap.size w w') : VsTold x w (.returned (.tuple #[o, .int .i64 a, .int .i64 b])) w' := by
  subst h1 h2
  exact ⟨o, rfl, h, hb⟩
end Go.Proofs.YtffegkjlgeblbaaGreatDoor.Typ
end

section
/- A function's type at a place: by the program and by the document. -/
namespace Go.Proofs.YtffegkjlgeblbaaGreatDoor.Typ
open Go.RowKit
set_option maxRecDepth 100000
set_option maxHeartbeats 1000000

theorem bcell {W w1 : World} (hb : Below W.heap.size W w1) : (∀ b o, b < W.heap.size → w1.cell? ⟨b, o, none⟩ = W.cell? ⟨b, o, none⟩) ∧ (∀ b o, b < W.heap.size → w1.frozen? ⟨b, o, none⟩ = W.frozen? ⟨b, o, none⟩) :=
  ⟨fun b o h => hb.cell (p := ⟨b, o, none⟩) h, fun b o h => hb.frozen (p := ⟨b, o, none⟩) h⟩
theorem OwnB.below {w : World} {B : Nat} {v : Value} {l : List Int} (h : OwnB w B v l) {a : Addr} (ha : a.block < B) (u : Value) : OwnB (w.setCell a u) B v l := ownsRow_setCell_below h ha u
theorem OwnB.base {w : World} {B B' : Nat} {v : Value} {l : List Int} (h : OwnB w B v l) (hB : B' ≤ B) : OwnB w B' v l := by
  refine ⟨h.1, ?_⟩
  rcases h.2 with h0 | ⟨g, cap, cur, hv, hb, rest⟩
  · exact .inl h0
  · exact .inr ⟨g, cap, cur, hv, Nat.le_trans hB hb, rest⟩
/-- A function's type at a place. -/
def fn2 (x : List Int) (r : List Int × Int × Int) : List Int × List Int × Int × Int := if r.2.2 ≠ 0 then ([], [], 0, r.2.2) else (x, r.1, r.2.1, 0)
def fn1 (l : List Int) (r : List Int × Int × Int) : List Int × List Int × Int × Int := if r.2.2 ≠ 0 then ([], [], 0, r.2.2) else fn2 r.1 (vs l r.2.1.toNat 1)
def fn (l : List Int) (at_ : Int) : List Int × List Int × Int × Int := if (bt l at_).2 ≠ 0 then ([], [], 0, (bt l at_).2) else if (bt l at_).1 ≠ 96 then ([], [], 0, 3) else fn1 l (vs l (at_.toNat + 1) 16)
theorem rdl_one {fit : Int → Nat → Bool} {bits : Nat} : ∀ (l : List Int) (lo acc v m : Nat), Leb.rdl fit bits l lo acc = .ok v m → lo + 7 ≤ m
  | [], _, _, _, _, h => by cases h
  | c :: r, lo, acc, v, m, h => by
    rw [Leb.rdl] at h
    split at h
    · cases h
    · split at h
      · injection h with _ h
        omega
      · have := rdl_one r (lo + 7) _ v m h
        omega
end Go.Proofs.YtffegkjlgeblbaaGreatDoor.Typ
end

section
/- Limits at a place: by the program and by the document. -/
namespace Go.Proofs.YtffegkjlgeblbaaGreatDoor.Typ
open Go.RowKit
set_option maxRecDepth 100000
set_option maxHeartbeats 1000000

/-- Least, greatest, whether there is one, the place behind, the error. -/
def LmTold (a b : Int) (h : Bool) (p n : Int) (w : World) (e : Ending) (w' : World) : Prop := e = .returned (.tuple #[.agg #[.int .i64 a, .int .i64 b, .bool h], .int .i64 p, .int .i64 n]) ∧ Below w.heap.size w w'
theorem three_cells {w w1 : World} {x y z : Value} {t : TypeId} (hb : Below (w.alloc (.cells #[x, y, z] t)).heap.size (w.alloc (.cells #[x, y, z] t)) w1) :
    w1.cell? ⟨w.heap.size, 0, none⟩ = some x ∧ w1.cell? ⟨w.heap.size, 1, none⟩ = some y ∧ w1.cell? ⟨w.heap.size, 2, none⟩ = some z ∧ w1.frozen? ⟨w.heap.size, 0, none⟩ = false ∧ w1.frozen? ⟨w.heap.size, 1, none⟩ = false ∧ w1.frozen? ⟨w.heap.size, 2, none⟩ = false ∧ w.heap.size < w1.heap.size ∧ Below w.heap.size w w1 := by
  obtain ⟨hc, hf⟩ := bcell hb
  have hs := hb.size
  refine ⟨?_, ?_, ?_, ?_, ?_, ?_, by simp at hs; omega, ((Below.refl _ _).alloc (Nat.le_refl _) _).trans (hb.mono (by simp))⟩
  · rw [hc _ _ (by simp)]; simp
  · rw [hc _ _ (by simp)]; simp
  · rw [hc _ _ (by simp)]; simp
  · rw [hf _ _ (by simp)]; simp
  · rw [hf _ _ (by simp)]; simp
  · rw [hf _ _ (by simp)]; simp
theorem lim_bt (v : Value) (at_ c E : Int) (w : World) (hE : (E != 0) = true)
    (h : ∀ W, Below w.heap.size w W → Calls Tryz.prog 214 #[v, .int .i64 at_] W (BtTold (c, E) W)) :
    Calls Tryz.prog 180 #[v, .int .i64 at_] w (LmTold 0 0 false 0 E w) := by
  have H := Lib.hid h
  clear h
  go_enter Tryz.func180, Tryz.ntmps180
  go_wp2_with fail
  refine (H.out _ ((Below.refl _ _).alloc (Nat.le_refl _) _)).mono ?_
  rintro e w1 ⟨rfl, rfl⟩
  go_wp2_with fail
  refine bodyPost_ret (v := .tuple #[.agg #[.int .i64 0, .int .i64 0, .bool false], .int .i64 0, .int .i64 E]) (by simp [results, Tryz.results180, go_sem]) rfl ⟨rfl, ?_⟩
  repeat (first | exact Below.refl _ _ | refine Below.setCell ?_ (by simp) _ | refine Below.alloc ?_ (by simp) _)
theorem lim_form (v : Value) (at_ c : Int) (w : World) (hc : 1 < c)
    (h : ∀ W, Below w.heap.size w W → Calls Tryz.prog 214 #[v, .int .i64 at_] W (BtTold (c, 0) W)) :
    Calls Tryz.prog 180 #[v, .int .i64 at_] w (LmTold 0 0 false 0 3 w) := by
  have t0 : (c != 0) = true := by simp; omega
  have t1 : (c != 1) = true := by simp; omega
  have t2 : decide (1 < c) = true := decide_eq_true hc
  clear hc
  have H := Lib.hid h
  clear h
  go_enter Tryz.func180, Tryz.ntmps180
  go_wp2_with fail
  refine (H.out _ ((Below.refl _ _).alloc (Nat.le_refl _) _)).mono ?_
  rintro e w1 ⟨rfl, rfl⟩
  go_wp2_with fail
  refine bodyPost_ret (v := .tuple #[.agg #[.int .i64 0, .int .i64 0, .bool false], .int .i64 0, .int .i64 3]) (by simp [results, Tryz.results180, go_sem]) rfl ⟨rfl, ?_⟩
  repeat (first | exact Below.refl _ _ | refine Below.setCell ?_ (by simp) _ | refine Below.alloc ?_ (by simp) _)
theorem lim_1 (v : Value) (at_ c E : Int) (w : World) (hc : c = 0 ∨ c = 1) (hE : (E != 0) = true) (hat : IntKind.i64.wrap (at_ + 1) = at_ + 1)
    (h : ∀ W, Below w.heap.size w W → Calls Tryz.prog 214 #[v, .int .i64 at_] W (BtTold (c, 0) W))
    (hp : ∀ W, Below w.heap.size w W → Calls Tryz.prog 111 #[v, .int .i64 (at_ + 1), .int .i64 32] W (Leb.RTold W 0 0 E .u64)) :
    Calls Tryz.prog 180 #[v, .int .i64 at_] w (LmTold 0 0 false 0 E w) := by
  have t0 : ((c != 0) && (c != 1)) = false := by rcases hc with rfl | rfl <;> rfl
  rcases hc with rfl | rfl
  all_goals clear t0
  · have H := Lib.hid h
    have HP := Lib.hid hp
    clear h hp
    go_enter Tryz.func180, Tryz.ntmps180
    go_wp2_with fail
    refine (H.out _ ((Below.refl _ _).alloc (Nat.le_refl _) _)).mono ?_
    rintro e w1 ⟨rfl, rfl⟩
    go_wp2_with fail
    refine (HP.out _ ((Below.refl _ _).alloc (Nat.le_refl _) _)).mono ?_
    rintro e w2 ⟨rfl, hb⟩
    obtain ⟨c0, c1, c2, f0, f1, f2, hz, hb2⟩ := three_cells hb
    have HB := Lib.hid hb2
    clear hb hb2
    go_wp2_with fail
    refine bodyPost_ret (v := .tuple #[.agg #[.int .i64 0, .int .i64 0, .bool false], .int .i64 0, .int .i64 E]) (by simp [results, Tryz.results180, go_sem, c0, c1, c2]) rfl ⟨rfl, ?_⟩
    repeat (first | exact HB.out | refine Below.setCell ?_ (by simp) _ | refine Below.alloc ?_ (by simp) _)
  · have H := Lib.hid h
    have HP := Lib.hid hp
    clear h hp
    go_enter Tryz.func180, Tryz.ntmps180
    go_wp2_with fail
    refine (H.out _ ((Below.refl _ _).alloc (Nat.le_refl _) _)).mono ?_
    rintro e w1 ⟨rfl, rfl⟩
    go_wp2_with fail
    refine (HP.out _ ((Below.refl _ _).alloc (Nat.le_refl _) _)).mono ?_
    rintro e w2 ⟨rfl, hb⟩
    obtain ⟨c0, c1, c2, f0, f1, f2, hz, hb2⟩ := three_cells hb
    have HB := Lib.hid hb2
    clear hb hb2
    go_wp2_with fail
    refine bodyPost_ret (v := .tuple #[.agg #[.int .i64 0, .int .i64 0, .bool false], .int .i64 0, .int .i64 E]) (by simp [results, Tryz.results180, go_sem, c0, c1, c2]) rfl ⟨rfl, ?_⟩
    repeat (first | exact HB.out | refine Below.setCell ?_ (by simp) _ | refine Below.alloc ?_ (by simp) _)
theorem lim_0 (v : Value) (at_ n p : Int) (w : World) (hn : IntKind.i64.wrap n = n) (hat : IntKind.i64.wrap (at_ + 1) = at_ + 1)
    (h : ∀ W, Below w.heap.size w W → Calls Tryz.prog 214 #[v, .int .i64 at_] W (BtTold (0, 0) W))
    (hp : ∀ W, Below w.heap.size w W → Calls Tryz.prog 111 #[v, .int .i64 (at_ + 1), .int .i64 32] W (Leb.RTold W n p 0 .u64)) :
    Calls Tryz.prog 180 #[v, .int .i64 at_] w (LmTold n 0 false p 0 w) := by
  have H := Lib.hid h
  have HP := Lib.hid hp
  clear h hp
  go_enter Tryz.func180, Tryz.ntmps180
  go_wp2_with fail
  refine (H.out _ ((Below.refl _ _).alloc (Nat.le_refl _) _)).mono ?_
  rintro e w1 ⟨rfl, rfl⟩
  go_wp2_with fail
  refine (HP.out _ ((Below.refl _ _).alloc (Nat.le_refl _) _)).mono ?_
  rintro e w2 ⟨rfl, hb⟩
  obtain ⟨c0, c1, c2, f0, f1, f2, hz, hb2⟩ := three_cells hb
  have HB := Lib.hid hb2
  clear hb hb2
  go_wp2_with fail
  refine bodyPost_ret (v := .tuple #[.agg #[.int .i64 n, .int .i64 0, .bool false], .int .i64 p, .int .i64 0]) (by simp [results, Tryz.results180, go_sem, c0, c1, c2]) rfl ⟨rfl, ?_⟩
  repeat (first | exact HB.out | refine Below.setCell ?_ (by simp) _ | refine Below.alloc ?_ (by simp) _)
theorem lim_2 (v : Value) (at_ n p E : Int) (w : World) (hE : (E != 0) = true) (hat : IntKind.i64.wrap (at_ + 1) = at_ + 1)
    (h : ∀ W, Below w.heap.size w W → Calls Tryz.prog 214 #[v, .int .i64 at_] W (BtTold (1, 0) W))
    (hp : ∀ W, Below w.heap.size w W → Calls Tryz.prog 111 #[v, .int .i64 (at_ + 1), .int .i64 32] W (Leb.RTold W n p 0 .u64))
    (hr : ∀ W, Below w.heap.size w W → Calls Tryz.prog 111 #[v, .int .i64 p, .int .i64 32] W (Leb.RTold W 0 0 E .u64)) :
    Calls Tryz.prog 180 #[v, .int .i64 at_] w (LmTold 0 0 false 0 E w) := by
  have H := Lib.hid h
  have HP := Lib.hid hp
  have HR := Lib.hid hr
  clear h hp hr
  go_enter Tryz.func180, Tryz.ntmps180
  go_wp2_with fail
  refine (H.out _ ((Below.refl _ _).alloc (Nat.le_refl _) _)).mono ?_
  rintro e w1 ⟨rfl, rfl⟩
  go_wp2_with fail
  refine (HP.out _ ((Below.refl _ _).alloc (Nat.le_refl _) _)).mono ?_
  rintro e w2 ⟨rfl, hb⟩
  have HB := Lib.hid hb
  have HW := Lib.hid (three_cells hb).2.2.2.2.2.2.2
  clear hb
  go_wp2_with fail
  refine (HR.out _ HW.out).mono ?_
  rintro e w3 ⟨rfl, hb3⟩
  obtain ⟨c0, c1, c2, f0, f1, f2, hz, hb2⟩ := three_cells (HB.out.trans (hb3.mono HB.out.size))
  have HB3 := Lib.hid hb2
  clear hb2 hb3
  go_wp2_with fail
  refine bodyPost_ret (v := .tuple #[.agg #[.int .i64 0, .int .i64 0, .bool false], .int .i64 0, .int .i64 E]) (by simp [results, Tryz.results180, go_sem, c0, c1, c2]) rfl ⟨rfl, ?_⟩
  repeat (first | exact HB3.out | refine Below.setCell ?_ (by simp) _ | refine Below.alloc ?_ (by simp) _)
theorem lim_3 (v : Value) (at_ n p m q : Int) (w : World) (hn : IntKind.i64.wrap n = n) (hm : IntKind.i64.wrap m = m) (hat : IntKind.i64.wrap (at_ + 1) = at_ + 1)
    (h : ∀ W, Below w.heap.size w W → Calls Tryz.prog 214 #[v, .int .i64 at_] W (BtTold (1, 0) W))
    (hp : ∀ W, Below w.heap.size w W → Calls Tryz.prog 111 #[v, .int .i64 (at_ + 1), .int .i64 32] W (Leb.RTold W n p 0 .u64))
    (hr : ∀ W, Below w.heap.size w W → Calls Tryz.prog 111 #[v, .int .i64 p, .int .i64 32] W (Leb.RTold W m q 0 .u64)) :
    Calls Tryz.prog 180 #[v, .int .i64 at_] w (LmTold n m true q 0 w) := by
  have H := Lib.hid h
  have HP := Lib.hid hp
  have HR := Lib.hid hr
  clear h hp hr
  go_enter Tryz.func180, Tryz.ntmps180
  go_wp2_with fail
  refine (H.out _ ((Below.refl _ _).alloc (Nat.le_refl _) _)).mono ?_
  rintro e w1 ⟨rfl, rfl⟩
  go_wp2_with fail
  refine (HP.out _ ((Below.refl _ _).alloc (Nat.le_refl _) _)).mono ?_
  rintro e w2 ⟨rfl, hb⟩
  have HB := Lib.hid hb
  have HW := Lib.hid (three_cells hb).2.2.2.2.2.2.2
  clear hb
  go_wp2_with fail
  refine (HR.out _ HW.out).mono ?_
  rintro e w3 ⟨rfl, hb3⟩
  obtain ⟨c0, c1, c2, f0, f1, f2, hz, hb2⟩ := three_cells (HB.out.trans (hb3.mono HB.out.size))
  have HB3 := Lib.hid hb2
  clear hb2 hb3
  go_wp2_with fail
  refine bodyPost_ret (v := .tuple #[.agg #[.int .i64 n, .int .i64 m, .bool true], .int .i64 q, .int .i64 0]) (by simp [results, Tryz.results180, go_sem, c0, c1, c2]) rfl ⟨rfl, ?_⟩
  repeat (first | exact HB3.out | refine Below.setCell ?_ (by simp) _ | refine Below.alloc ?_ (by simp) _)
/-- Limits at a place. -/
def lm2 (n : Nat) (k : Nat) : Leb.RU → Int × Int × Bool × Int × Int
  | .ok m j => ((n : Int), (m : Int), true, ((k + j / 7 : Nat) : Int), 0)
  | .short => (0, 0, false, 0, 2)
  | .form => (0, 0, false, 0, 3)
def lm1 (l : List Int) (c : Int) (k : Nat) : Leb.RU → Int × Int × Bool × Int × Int
  | .ok n j => if c = 0 then ((n : Int), 0, false, ((k + j / 7 : Nat) : Int), 0) else lm2 n (k + j / 7) (Leb.rdl Leb.fitU 32 (l.drop (k + j / 7)) 0 0)
  | .short => (0, 0, false, 0, 2)
  | .form => (0, 0, false, 0, 3)
def lm (l : List Int) (at_ : Int) : Int × Int × Bool × Int × Int := if (bt l at_).2 ≠ 0 then (0, 0, false, 0, (bt l at_).2) else if 1 < (bt l at_).1 then (0, 0, false, 0, 3) else lm1 l (bt l at_).1 (at_.toNat + 1) (Leb.rdl Leb.fitU 32 (l.drop (at_.toNat + 1)) 0 0)
def LmIs (x : Int × Int × Bool × Int × Int) (w : World) (e : Ending) (w' : World) : Prop := LmTold x.1 x.2.1 x.2.2.1 x.2.2.2.1 x.2.2.2.2 w e w'
/-- How a number is told. -/
def RdIs (k : Nat) (r : Leb.RU) (w : World) (e : Ending) (w' : World) : Prop := Leb.RTold w (Leb.uV r) (Leb.uP k r) (Leb.uE r) .u64 e w'
theorem uread_any (v : Value) (l : List Int) (k : Nat) (w : World) (hby : ∀ x ∈ l, 0 ≤ x ∧ x < 256) (hv : Sl w v l) (hl : l.length ≤ 1000000) (hk : k ≤ l.length) : Calls Tryz.prog 111 #[v, .int .i64 (k : Int), .int .i64 32] w (RdIs k (Leb.rdl Leb.fitU 32 (l.drop k) 0 0) w) := by
  have hv' := hv
  obtain ⟨A, c, rfl, _⟩ := hv'
  exact Leb.ReadU_is A c 32 k l w hv.leb hl (by255 hby) (by omega) (by omega) hk
theorem lim_any (v : Value) (l : List Int) (at_ : Int) (w : World) (hby : ∀ x ∈ l, 0 ≤ x ∧ x < 256) (hv : Sl w v l) (hl : l.length ≤ 1000000) :
    Calls Tryz.prog 180 #[v, .int .i64 at_] w (LmIs (lm l at_) w) := by
  have hB : ∀ W, Below w.heap.size w W → Calls Tryz.prog _ #[v, .int .i64 at_] W (BtTold (bt l at_) W) := fun W hW => byteAt_any v l at_ W (hv.keep hW) (by omega)
  unfold LmIs lm
  rcases bt_ways l at_ with ⟨hb, h⟩ | ⟨k, rfl, hk, hb⟩
  · rw [if_pos (show (bt l at_).2 ≠ 0 by omega)]
    refine lim_bt v at_ (bt l at_).1 _ w ?_ hB
    have : (bt l at_).2 ≠ 0 := by omega
    simpa using this
  · rw [hb] at hB
    rw [hb, if_neg (by simp)]
    have hc0 := hby (l.getD k 0) (by rw [List.getD_eq_getElem?_getD, List.getElem?_eq_getElem hk]; simp)
    by_cases h1 : 1 < l.getD k 0
    · rw [if_pos h1]
      exact lim_form v k _ w h1 hB
    · rw [if_neg h1, Int.toNat_natCast]
      have hat : IntKind.i64.wrap ((k : Int) + 1) = (k : Int) + 1 := IntWalk.i64_in _ (by omega)
      have hP : ∀ W, Below w.heap.size w W → Calls Tryz.prog _ #[v, .int .i64 ((k : Int) + 1), .int .i64 32] W (RdIs (k + 1) (Leb.rdl Leb.fitU 32 (l.drop (k + 1)) 0 0) W) := fun W hW => uread_any v l (k + 1) W hby (hv.keep hW) hl (by omega)
      cases hr : Leb.rdl Leb.fitU 32 (l.drop (k + 1)) 0 0 with
      | short => rw [hr] at hP; exact lim_1 v k _ 2 w (by omega) (by decide) hat hB hP
      | form => rw [hr] at hP; exact lim_1 v k _ 3 w (by omega) (by decide) hat hB hP
      | ok n j =>
        rw [hr] at hP
        have hn := (rdl32 (fun x hx => hby x (List.mem_of_mem_drop hx)) hr).1
        have hm := rdl_len _ _ _ _ _ hr
        rw [List.length_drop] at hm
        have hP : ∀ W, Below w.heap.size w W → Calls Tryz.prog _ #[v, .int .i64 ((k : Int) + 1), .int .i64 32] W (Leb.RTold W (n : Int) ((k + 1 + j / 7 : Nat) : Int) 0 .u64) := hP
        have hnw : IntKind.i64.wrap (n : Int) = (n : Int) := IntWalk.i64_in _ (by omega)
        by_cases h0 : l.getD k 0 = 0
        · rw [h0] at hB
          rw [show lm1 l (l.getD k 0, (0 : Int)).1 (k + 1) (.ok n j) = ((n : Int), 0, false, ((k + 1 + j / 7 : Nat) : Int), 0) from if_pos h0]
          exact lim_0 v k n _ w hnw hat hB hP
        · rw [show l.getD k 0 = 1 from by omega] at hB
          rw [show lm1 l (l.getD k 0, (0 : Int)).1 (k + 1) (.ok n j) = lm2 n (k + 1 + j / 7) (Leb.rdl Leb.fitU 32 (l.drop (k + 1 + j / 7)) 0 0) from if_neg h0]
          have hR : ∀ W, Below w.heap.size w W → Calls Tryz.prog _ #[v, .int .i64 ((k + 1 + j / 7 : Nat) : Int), .int .i64 32] W (RdIs (k + 1 + j / 7) (Leb.rdl Leb.fitU 32 (l.drop (k + 1 + j / 7)) 0 0) W) := fun W hW => uread_any v l (k + 1 + j / 7) W hby (hv.keep hW) hl (by omega)
          cases hr2 : Leb.rdl Leb.fitU 32 (l.drop (k + 1 + j / 7)) 0 0 with
          | short => rw [hr2] at hR; exact lim_2 v k n _ 2 w (by decide) hat hB hP hR
          | form => rw [hr2] at hR; exact lim_2 v k n _ 3 w (by decide) hat hB hP hR
          | ok m i =>
            rw [hr2] at hR
            have hm2 := (rdl32 (fun x hx => hby x (List.mem_of_mem_drop hx)) hr2).1
            exact lim_3 v k n _ m _ w hnw (IntWalk.i64_in _ (by omega)) hat hB hP hR
end Go.Proofs.YtffegkjlgeblbaaGreatDoor.Typ
end


section
/- A function's type, laid: by the program and by the document. -/
namespace Go.Proofs.YtffegkjlgeblbaaGreatDoor.Typ
open Go.RowKit
set_option maxRecDepth 100000
set_option maxHeartbeats 1000000

/-- Bytes, and an error. -/
def LaidE (x : List Int) (n : Int) (w : World) (e : Ending) (w' : World) : Prop := ∃ v, e = .returned (.tuple #[v, .int .i64 n]) ∧ Sl w' v x ∧ Below w.heap.size w w'
theorem own_sl {w : World} {B : Nat} {v : Value} {l : List Int} (h : Leb.Own w B v l) : Sl w v l := OwnB.sl (show OwnB w B v l from h.2)
theorem own_base {w : World} {B B' : Nat} {v : Value} {l : List Int} (h : Leb.Own w B v l) (hB : B' ≤ B) : Leb.Own w B' v l := ⟨h.1, OwnB.base (show OwnB w B v l from h.2) hB⟩
theorem new_byt (w : World) (x : Int) : Leb.Byt (w.alloc (.cells #[.int .u8 x] 5)) (w.alloc (.cells #[.int .u8 x] 5)).heap.size (some ⟨w.heap.size, 0, none⟩) [x] := fun _ => ⟨_, rfl, by simp, Leb.one_new w _⟩
theorem own_len {w : World} {B n d g : Nat} {l : List Int} (h : Leb.Own w B (.slice (some ⟨g, 0, none⟩) n d) l) : n = l.length := by
  obtain ⟨⟨_, _, e⟩, _⟩ := h
  injection e
end Go.Proofs.YtffegkjlgeblbaaGreatDoor.Typ
end

section
/- Whether limits keep to others: by the program and by the document. -/
namespace Go.Proofs.YtffegkjlgeblbaaGreatDoor.Typ
open Go.RowKit
set_option maxRecDepth 100000
set_option maxHeartbeats 1000000

/-- Limits as a value. -/
def lv (a b : Int) (h : Bool) : Value := .agg #[.int .i64 a, .int .i64 b, .bool h]
/-- What limits are drawn to. -/
def NarTold (x : Value) (w : World) (e : Ending) (w' : World) : Prop := e = .returned x ∧ Below w.heap.size w w'
end Go.Proofs.YtffegkjlgeblbaaGreatDoor.Typ
end
