/- TypAt, TypVals, TypFunc, TypSane. -/
import Derived.Test.YtlappkflnlbfcaaGreatDoorPkLebTwo
section
/- The byte at a place, and a value's type there: by the program and by the document. -/
namespace Go.Proofs.YtlappkflnlbfcaaGreatDoor.Typ
open Go.RowKit
set_option maxRecDepth 100000
set_option maxHeartbeats 1000000

/-- The byte at a place, and the error. -/
def bt (l : List Int) (at_ : Int) : Int × Int := if at_ < 0 ∨ (l.length : Int) < at_ then (0, 1) else if at_ = (l.length : Int) then (0, 2) else (l.getD at_.toNat 0, 0)
/-- Is a byte a value's type? -/
def isV (c : Int) : Bool := decide (c = 127 ∨ c = 126)
theorem isV_no {c : Int} (h : ¬ (c = 127 ∨ c = 126)) : isV c = false := decide_eq_false h
theorem isVal_any (c : Int) (w : World) : Calls Tryz.prog 163 #[.int .u8 c] w fun e w' => e = .returned (.bool (isV c)) ∧ w = w' := by
  by_cases h1 : c = 127
  · subst h1
    go_enter Tryz.func163, Tryz.ntmps163
    go_wp2
    go_ret
    exact ⟨rfl, rfl⟩
  · have t1 : (c == 127) = false := by simpa using h1
    by_cases h2 : c = 126
    · subst h2
      go_enter Tryz.func163, Tryz.ntmps163
      go_wp2
      go_ret
      exact ⟨rfl, rfl⟩
    · have t2 : (c == 126) = false := by simpa using h2
      have H := Lib.hid (isV_no (c := c) (by omega))
      clear h1 h2
      go_enter Tryz.func163, Tryz.ntmps163
      go_wp2
      go_ret
      rw [H.out]
      exact ⟨rfl, rfl⟩
end Go.Proofs.YtlappkflnlbfcaaGreatDoor.Typ
end

section
/- Values' types behind how many they are: by the program and by the document. -/
namespace Go.Proofs.YtlappkflnlbfcaaGreatDoor.Typ
open Go.RowKit
set_option maxRecDepth 100000
set_option maxHeartbeats 1000000

/-- Why bytes do not begin with so many values' types: 0, if they do. -/
def vbad : List Int → Nat → Int
  | _, 0 => 0
  | [], _ + 1 => 2
  | c :: r, n + 1 => bif isV c then vbad r n else 3
theorem drop_cons {l : List Int} {k : Nat} (h : k < l.length) : l.drop k = l.getD k 0 :: l.drop (k + 1) := by
  rw [List.drop_eq_getElem_cons h]
  simp [h]
/-- Values' types, the place behind, the error. -/
def vsN (l : List Int) (p n : Nat) (M : Int) : List Int × Int × Int := if M < (n : Int) then ([], 0, 4) else if vbad (l.drop p) n = 0 then ((l.drop p).take n, ((p + n : Nat) : Int), 0) else ([], 0, vbad (l.drop p) n)
def vs (l : List Int) (k : Nat) (M : Int) : List Int × Int × Int := match Leb.rdl Leb.fitU 32 (l.drop k) 0 0 with
  | .ok n m => vsN l (k + m / 7) n M
  | .short => ([], 0, 2)
  | .form => ([], 0, 3)
def VsTold (x : List Int × Int × Int) (w : World) (e : Ending) (w' : World) : Prop := ∃ o, e = .returned (.tuple #[o, .int .i64 x.2.1, .int .i64 x.2.2]) ∧ OwnB w' w.heap.size o x.1 ∧ Below w.heap.size w w'
theorem VsTold.mk {x : List Int × Int × Int} {w w' : World} {o : Value} {a b : Int} (h : OwnB w' w.heap.size o x.1) (h1 : x.2.1 = a) (h2 : x.2.2 = b) (hb : Below w.heap.size w w') : VsTold x w (.returned (.tuple #[o, .int .i64 a, .int .i64 b])) w' := by
  subst h1 h2
  exact ⟨o, rfl, h, hb⟩
end Go.Proofs.YtlappkflnlbfcaaGreatDoor.Typ
end

section
/- A function's type at a place: by the program and by the document. -/
namespace Go.Proofs.YtlappkflnlbfcaaGreatDoor.Typ
open Go.RowKit
set_option maxRecDepth 100000
set_option maxHeartbeats 1000000

theorem OwnB.below {w : World} {B : Nat} {v : Value} {l : List Int} (h : OwnB w B v l) {a : Addr} (ha : a.block < B) (u : Value) : OwnB (w.setCell a u) B v l := ownsRow_setCell_below h ha u
theorem OwnB.base {w : World} {B B' : Nat} {v : Value} {l : List Int} (h : OwnB w B v l) (hB : B' ≤ B) : OwnB w B' v l := by
  refine ⟨h.1, ?_⟩
  rcases h.2 with h0 | ⟨g, cap, cur, hv, hb, rest⟩
  · exact .inl h0
  · exact .inr ⟨g, cap, cur, hv, Nat.le_trans hB hb, rest⟩
/-- Params, results, the place behind, the error. -/
def FnTold (x y : List Int) (p n : Int) (w : World) (e : Ending) (w' : World) : Prop := ∃ o1 o2, e = .returned (.tuple #[.agg #[o1, o2], .int .i64 p, .int .i64 n]) ∧ OwnB w' w.heap.size o1 x ∧ OwnB w' w.heap.size o2 y ∧ Below w.heap.size w w'
/-- A function's type at a place. -/
def fn2 (x : List Int) (r : List Int × Int × Int) : List Int × List Int × Int × Int := if r.2.2 ≠ 0 then ([], [], 0, r.2.2) else (x, r.1, r.2.1, 0)
def fn1 (l : List Int) (r : List Int × Int × Int) : List Int × List Int × Int × Int := if r.2.2 ≠ 0 then ([], [], 0, r.2.2) else fn2 r.1 (vs l r.2.1.toNat 1)
def fn (l : List Int) (at_ : Int) : List Int × List Int × Int × Int := if (bt l at_).2 ≠ 0 then ([], [], 0, (bt l at_).2) else if (bt l at_).1 ≠ 96 then ([], [], 0, 3) else fn1 l (vs l (at_.toNat + 1) 16)
end Go.Proofs.YtlappkflnlbfcaaGreatDoor.Typ
end

section
/- Whether a function's type may be: by the program and by the document. -/
namespace Go.Proofs.YtlappkflnlbfcaaGreatDoor.Typ
open Go.RowKit
set_option maxRecDepth 100000
set_option maxHeartbeats 1000000

def allV (l : List Int) : Bool := l.all isV
theorem allV_step {l : List Int} {k : Nat} (h : k < l.length) : allV (l.drop k) = (isV (l.getD k 0) && allV (l.drop (k + 1))) := by rw [drop_cons h]; rfl
theorem allV_true {l : List Int} (h : allV l = true) : ∀ x ∈ l, isV x = true := fun x hx => List.all_eq_true.1 h x hx
theorem are_none (A : Option Addr) (c : Nat) (w : World) : Calls Tryz.prog 137 #[.slice A 0 c] w fun e w' => e = .returned (.bool true) ∧ w = w' := by
  go_enter Tryz.func137, Tryz.ntmps137
  go_wp2_with fail
  go_loop [7] (fun i => i = .int .i64 0) (fun _ => 0)
  case atStart => rfl
  case round =>
    subst hrel
    go_wp2_with fail
    go_ret
    exact ⟨rfl, rfl⟩
theorem ret_b {a b : Bool} (h : a = b) : Ending.returned (.bool a) = .returned (.bool b) := by rw [h]
theorem are_some (g off c : Nat) (l : List Int) (w : World) (hB : Byt w w.heap.size ⟨g, off, none⟩ l) (hl : l.length ≤ 1000000) : Calls Tryz.prog 137 #[.slice (some ⟨g, off, none⟩) l.length c] w fun e w' => e = .returned (.bool (allV l)) ∧ w = w' := by
  have HB := Lib.hid hB
  clear hB
  go_enter Tryz.func137, Tryz.ntmps137
  go_wp2_with fail
  go_loop [7] (fun i => ∃ k : Nat, k ≤ l.length ∧ i = .int .i64 (k : Int) ∧ allV (l.drop k) = allV l) (fun i => l.length - (intOf i).toNat)
  case atStart => exact ⟨0, Nat.zero_le _, rfl, rfl⟩
  case round =>
    obtain ⟨k, hk, rfl, ha⟩ := hrel
    have HA := Lib.hid ha
    clear ha
    by_cases hlt : k < l.length
    · have hcell := HB.out.2.2 k hlt
      have hst := Lib.hid (allV_step hlt)
      have HV := Lib.hid (isVal_any (l.getD k 0) w)
      revert hcell hst HV
      generalize l.getD k 0 = y
      intro hcell hst HV
      cases hc : isV y with
      | true =>
        rw [hc] at HV hst
        clear hc
        go_wp2_with fail
        refine HV.out.mono ?_
        rintro e w2 ⟨rfl, rfl⟩
        go_wp2_with fail
        go_round
        case rel => exact ⟨k + 1, by omega, by go_num, by rw [← HA.out, hst.out]; rfl⟩
        case measure => simp [intOf]; omega
      | false =>
        rw [hc] at HV hst
        clear hc
        go_wp2_with fail
        refine HV.out.mono ?_
        rintro e w2 ⟨rfl, rfl⟩
        go_wp2_with fail
        go_ret
        exact ⟨ret_b (by rw [← HA.out, hst.out]; rfl), rfl⟩
    · obtain rfl : k = l.length := by omega
      go_wp2_with fail
      go_ret
      exact ⟨ret_b (by rw [← HA.out, List.drop_length]; rfl), rfl⟩
theorem are_any (v : Value) (l : List Int) (w : World) (hv : Sl w v l) (hl : l.length ≤ 1000000) : Calls Tryz.prog 137 #[v] w fun e w' => e = .returned (.bool (allV l)) ∧ w = w' := by
  obtain ⟨A, c, rfl, _, _, h4⟩ := hv
  by_cases h0 : l = []
  · subst h0
    exact are_none A c w
  · obtain ⟨g, off, rfl, hB⟩ := h4 h0
    exact are_some g off c l w hB hl
/-- May a function's type be? -/
def sane (p r : List Int) : Bool := bif decide (p.length ≤ 16) then (bif decide (r.length ≤ 1) then (bif allV p then allV r else false) else false) else false
theorem sane_any (v u : Value) (p r : List Int) (w : World) (hv : Sl w v p) (hu : Sl w u r) (hp : p.length ≤ 1000000) (hr : r.length ≤ 1000000) : Calls Tryz.prog 105 #[.agg #[v, u]] w fun e w' => e = .returned (.bool (sane p r)) ∧ Below w.heap.size w w' := by
  have HV := Lib.hid (fun W (hW : Below w.heap.size w W) => are_any v p W (hv.keep hW) hp)
  have HU := Lib.hid (fun W (hW : Below w.heap.size w W) => are_any u r W (hu.keep hW) hr)
  obtain ⟨A, c, rfl, _⟩ := hv
  obtain ⟨A2, c2, rfl, _⟩ := hu
  unfold sane
  by_cases h1 : p.length ≤ 16
  · rw [decide_eq_true h1]
    have t1 : decide ((p.length : Int) ≤ 16) = true := by simp; omega
    by_cases h2 : r.length ≤ 1
    · rw [decide_eq_true h2]
      have t2 : decide ((r.length : Int) ≤ 1) = true := by simp; omega
      clear h1 h2
      cases ha : allV p with
      | true =>
        rw [ha] at HV
        clear ha
        generalize hb : allV r = b at *
        clear hb
        go_enter Tryz.func105, Tryz.ntmps105
        go_wp2_with fail
        refine (HV.out _ (by repeat (first | exact Below.refl _ _ | refine Below.alloc ?_ (by simp) _))).mono ?_
        rintro e w2 ⟨rfl, rfl⟩
        go_wp2_with fail
        refine (HU.out _ (by repeat (first | exact Below.refl _ _ | refine Below.alloc ?_ (by simp) _))).mono ?_
        rintro e w3 ⟨rfl, rfl⟩
        go_wp2_with fail
        go_ret
        exact ⟨rfl, by repeat (first | exact Below.refl _ _ | refine Below.alloc ?_ (by simp) _)⟩
      | false =>
        rw [ha] at HV
        clear ha
        go_enter Tryz.func105, Tryz.ntmps105
        go_wp2_with fail
        refine (HV.out _ (by repeat (first | exact Below.refl _ _ | refine Below.alloc ?_ (by simp) _))).mono ?_
        rintro e w2 ⟨rfl, rfl⟩
        go_wp2_with fail
        go_ret
        exact ⟨rfl, by repeat (first | exact Below.refl _ _ | refine Below.alloc ?_ (by simp) _)⟩
    · rw [decide_eq_false h2]
      have t2 : decide ((r.length : Int) ≤ 1) = false := by simp; omega
      clear h1 h2
      go_enter Tryz.func105, Tryz.ntmps105
      go_wp2_with fail
      go_ret
      exact ⟨rfl, by repeat (first | exact Below.refl _ _ | refine Below.alloc ?_ (by simp) _)⟩
  · rw [decide_eq_false h1]
    have t1 : decide ((p.length : Int) ≤ 16) = false := by simp; omega
    clear h1
    go_enter Tryz.func105, Tryz.ntmps105
    go_wp2_with fail
    go_ret
    exact ⟨rfl, by repeat (first | exact Below.refl _ _ | refine Below.alloc ?_ (by simp) _)⟩
end Go.Proofs.YtlappkflnlbfcaaGreatDoor.Typ
end
