/- InsKind, InsReader, InsNum, InsInstr, InsTable, InsRead, InsDoc, InsSame. -/
import Derived.Test.YtffegkjlgeblbaaGreatDoorIntsAll
import Derived.Test.YtffegkjlgeblbaaGreatDoorLebTwo
import Derived.Deep.QuietTactic
import Derived.BigQuiet
import Derived.Test.YtffegkjlgeblbaaGreatDoorStabAll
import Derived.Deep.RegionHeld
import Derived.Deep.RegionLaw
section
/- Which kind a code is of, by the document. -/
namespace Go.Proofs.YtffegkjlgeblbaaGreatDoor.Ins
open Go.RowKit Ints Typ
set_option maxRecDepth 100000
set_option maxHeartbeats 1000000

/-- A code's kind. -/
def kd (op : Int) : Int :=
  if 2 ≤ op ∧ op ≤ 4 then 2 else if op = 12 ∨ op = 13 ∨ op = 16 ∨ (32 ≤ op ∧ op ≤ 36) then 3 else if op = 14 then 4 else if op = 17 then 5
  else if op = 40 ∨ op = 41 ∨ (44 ≤ op ∧ op ≤ 55) ∨ (58 ≤ op ∧ op ≤ 62) then 6 else if op = 63 ∨ op = 64 then 7 else if op = 65 then 8 else if op = 66 then 9
  else if op = 0 ∨ op = 1 ∨ op = 5 ∨ op = 11 ∨ op = 15 ∨ op = 26 ∨ op = 27 then 1 else if (69 ≤ op ∧ op ≤ 90) ∨ (103 ≤ op ∧ op ≤ 138) ∨ op = 167 ∨ op = 172 ∨ op = 173 then 1 else 0
theorem kd_range (op : Int) : 0 ≤ kd op ∧ kd op ≤ 9 := by
  unfold kd
  repeat' (first | (split; omega) | omega)
theorem kd_low {op : Int} (h : op < 0) : kd op = 0 := by unfold kd; iterate 10 (rw [if_neg (by omega)])
theorem kd_high {op : Int} (h : 173 < op) : kd op = 0 := by unfold kd; iterate 10 (rw [if_neg (by omega)])
def KdTold (op : Int) (w : World) (e : Ending) (w' : World) : Prop := e = .returned (.int .i64 (kd op)) ∧ Below w.heap.size w w'
end Go.Proofs.YtffegkjlgeblbaaGreatDoor.Ins
end

section
/- The document's reader: bytes, a place, the first error; each of its calls turns its own three cells alone. -/
namespace Go.Proofs.YtffegkjlgeblbaaGreatDoor.Ins
open Go.RowKit Ints Typ
set_option maxRecDepth 100000
set_option maxHeartbeats 1000000

/-- But for block g the world is as it was. -/
structure But (g : Nat) (w w' : World) : Prop where
  os : w'.os = w.os
  tape : w'.tape = w.tape
  output : w'.output = w.output
  size : w.heap.size ≤ w'.heap.size
  block : ∀ k, k < w.heap.size → k ≠ g → w'.heap[k]? = w.heap[k]?
theorem But.refl (g : Nat) (w : World) : But g w w := ⟨rfl, rfl, rfl, Nat.le_refl _, fun _ _ _ => rfl⟩
theorem But.trans {g : Nat} {a b c : World} (h : But g a b) (k : But g b c) : But g a c :=
  ⟨k.os.trans h.os, k.tape.trans h.tape, k.output.trans h.output, Nat.le_trans h.size k.size, fun i hi hn => (k.block i (Nat.lt_of_lt_of_le hi h.size) hn).trans (h.block i hi hn)⟩
theorem But.of_below {g : Nat} {w w' : World} (h : Below w.heap.size w w') : But g w w' := ⟨h.os, h.tape, h.output, h.size, fun k hk _ => h.block k hk⟩
theorem But.below {g B : Nat} {w w' : World} (h : But g w w') (hB : B ≤ g) (hg : g < w.heap.size) : Below B w w' := ⟨h.os, h.tape, h.output, h.size, fun k hk => h.block k (by omega) (by omega)⟩
theorem But.cell {g : Nat} {w w' : World} (h : But g w w') {p : Addr} (hp : p.block < w.heap.size) (hn : p.block ≠ g) : w'.cell? p = w.cell? p := World.cell?_of_block (w := w) (h.block p.block hp hn)
theorem But.frozen {g : Nat} {w w' : World} (h : But g w w') {p : Addr} (hp : p.block < w.heap.size) (hn : p.block ≠ g) : w'.frozen? p = w.frozen? p := World.frozen?_of_block (w := w) (h.block p.block hp hn)
theorem But.setCell {g : Nat} {a w : World} (h : But g a w) {p : Addr} (hp : p.block = g) (u : Value) : But g a (w.setCell p u) :=
  h.trans ⟨rfl, rfl, rfl, by simp [World.setCell], fun k _ hk => Below.heap_setCell _ _ _ _ (by omega)⟩
theorem But.drewN {g : Nat} {a w : World} (h : But g a w) (n : Nat) : But g a (w.drewN n) := ⟨h.os, h.tape, h.output, h.size, h.block⟩
/-- A reader in memory. -/
structure RdAt (w : World) (g : Nat) (v : Value) (at_ e : Int) : Prop where
  lt : g < w.heap.size
  c0 : w.cell? ⟨g, 0, none⟩ = some v
  c1 : w.cell? ⟨g, 1, none⟩ = some (.int .i64 at_)
  c2 : w.cell? ⟨g, 2, none⟩ = some (.int .i64 e)
  f0 : w.frozen? ⟨g, 0, none⟩ = false
  f1 : w.frozen? ⟨g, 1, none⟩ = false
  f2 : w.frozen? ⟨g, 2, none⟩ = false
theorem RdAt.keep {w w' : World} {g : Nat} {v : Value} {a e : Int} (h : RdAt w g v a e) (hb : Below w.heap.size w w') : RdAt w' g v a e :=
  ⟨Nat.lt_of_lt_of_le h.lt hb.size, by rw [hb.cell (p := ⟨g, 0, none⟩) h.lt]; exact h.c0, by rw [hb.cell (p := ⟨g, 1, none⟩) h.lt]; exact h.c1, by rw [hb.cell (p := ⟨g, 2, none⟩) h.lt]; exact h.c2,
    by rw [hb.frozen (p := ⟨g, 0, none⟩) h.lt]; exact h.f0, by rw [hb.frozen (p := ⟨g, 1, none⟩) h.lt]; exact h.f1, by rw [hb.frozen (p := ⟨g, 2, none⟩) h.lt]; exact h.f2⟩
/-- The next byte. -/
def rb (l : List Int) (at_ : Nat) (e : Int) : Int × Nat × Int := if e ≠ 0 then (0, at_, e) else if l.length ≤ at_ then (0, at_, 2) else (l.getD at_ 0, at_ + 1, 0)
def RdTold (g : Nat) (v : Value) (x : Int × Nat × Int) (w : World) (en : Ending) (w' : World) : Prop := en = .returned (.int .i64 x.1) ∧ RdAt w' g v (x.2.1 : Int) x.2.2 ∧ But g w w'
theorem RdAt.set1 {w : World} {g : Nat} {v : Value} {a e : Int} (h : RdAt w g v a e) (x : Int) : RdAt (w.setCell ⟨g, 1, none⟩ (.int .i64 x)) g v x e := by
  obtain ⟨h0, c0, c1, c2, f0, f1, f2⟩ := h
  exact ⟨by simp [World.setCell]; exact h0, by rw [World.cell?_setCell_other (h := by simp)]; exact c0, by apply World.cell?_setCell_same; exact c1, by rw [World.cell?_setCell_other (h := by simp)]; exact c2, by rw [World.frozen?_setCell]; exact f0, by rw [World.frozen?_setCell]; exact f1, by rw [World.frozen?_setCell]; exact f2⟩
theorem RdAt.set2 {w : World} {g : Nat} {v : Value} {a e : Int} (h : RdAt w g v a e) (x : Int) : RdAt (w.setCell ⟨g, 2, none⟩ (.int .i64 x)) g v a x := by
  obtain ⟨h0, c0, c1, c2, f0, f1, f2⟩ := h
  exact ⟨by simp [World.setCell]; exact h0, by rw [World.cell?_setCell_other (h := by simp)]; exact c0, by rw [World.cell?_setCell_other (h := by simp)]; exact c1, by apply World.cell?_setCell_same; exact c2, by rw [World.frozen?_setCell]; exact f0, by rw [World.frozen?_setCell]; exact f1, by rw [World.frozen?_setCell]; exact f2⟩
theorem RdAt.drewN {w : World} {g : Nat} {v : Value} {a e : Int} (h : RdAt w g v a e) (n : Nat) : RdAt (w.drewN n) g v a e := h.keep ⟨rfl, rfl, rfl, Nat.le_refl _, fun _ _ => rfl⟩
/-- A reader of bytes that were there ahead of it. -/
structure Rd (w0 : World) (v : Value) (l : List Int) (g : Nat) (w : World) (at_ : Nat) (e : Int) : Prop where
  sl : Sl w0 v l
  by_ : ∀ x ∈ l, 0 ≤ x ∧ x < 256
  len : l.length ≤ 1000000
  at_le : at_ ≤ l.length
  base : w0.heap.size ≤ g
  below : Below w0.heap.size w0 w
  rd : RdAt w g v (at_ : Int) e
/-- How a reader's call ends: what it tells, the place, the error. -/
def Turn (v : Value) (g : Nat) (x : Value) (at_ : Nat) (e : Int) (w : World) (en : Ending) (w' : World) : Prop := en = .returned x ∧ RdAt w' g v (at_ : Int) e ∧ But g w w'
theorem Rd.turn {w0 w w' : World} {v : Value} {l : List Int} {g a a' : Nat} {e e' : Int} (h : Rd w0 v l g w a e) (hr : RdAt w' g v (a' : Int) e') (hb : But g w w') (ha : a' ≤ l.length) : Rd w0 v l g w' a' e' :=
  ⟨h.sl, h.by_, h.len, ha, h.base, h.below.trans (hb.below h.base h.rd.lt), hr⟩
theorem Rd.keep {w0 w w' : World} {v : Value} {l : List Int} {g a : Nat} {e : Int} (h : Rd w0 v l g w a e) (hb : Below w.heap.size w w') : Rd w0 v l g w' a e :=
  ⟨h.sl, h.by_, h.len, h.at_le, h.base, h.below.trans (hb.mono h.below.size), h.rd.keep hb⟩
theorem rb_err {l : List Int} {a : Nat} {e : Int} (h : e ≠ 0) : rb l a e = (0, a, e) := if_pos h
theorem rb_end {l : List Int} {a : Nat} (h : l.length ≤ a) : rb l a 0 = (0, a, 2) := (if_neg (by simp)).trans (if_pos h)
theorem rb_in {l : List Int} {a : Nat} (h : a < l.length) : rb l a 0 = (l.getD a 0, a + 1, 0) := (if_neg (by simp)).trans (if_neg (by omega))
theorem rb_le {l : List Int} {a : Nat} {e : Int} (h : a ≤ l.length) : (rb l a e).2.1 ≤ l.length := by
  unfold rb
  split
  · exact h
  · split
    · exact h
    · show a + 1 ≤ l.length
      omega
/-- An error, if something is so, and there is none yet. -/
def rf (is : Bool) (e err : Int) : Int := bif is then (if e = 0 then err else e) else e
end Go.Proofs.YtffegkjlgeblbaaGreatDoor.Ins
end

section
/- The document's reader: the next number, with its sign or without. -/
namespace Go.Proofs.YtffegkjlgeblbaaGreatDoor.Ins
open Go.RowKit Ints Typ
set_option maxRecDepth 100000
set_option maxHeartbeats 1000000

theorem run_ld (A : Option Addr) (n c g o : Nat) (W : World) (h : W.cell? ⟨g, o, none⟩ = some (.slice A n c)) : (Instr.loadAt 22 (.pointer (some ⟨g, o, none⟩))).run Tryz.prog W = .ok (.slice A n c) W := by go_simp
theorem run_li (x : Int) (g o : Nat) (W : World) (h : W.cell? ⟨g, o, none⟩ = some (.int .i64 x)) : (Instr.loadAt 3 (.pointer (some ⟨g, o, none⟩))).run Tryz.prog W = .ok (.int .i64 x) W := by go_simp
/-- A number, the place, the error. -/
def ru (l : List Int) (a : Nat) (e : Int) : Int × Nat × Int := if e ≠ 0 then (0, a, e) else match Leb.rdl Leb.fitU 32 (l.drop a) 0 0 with
  | .ok n m => ((n : Int), a + m / 7, 0)
  | .short => (0, a, 2)
  | .form => (0, a, 3)
def rs (bits : Nat) (l : List Int) (a : Nat) (e : Int) : Int × Nat × Int := if e ≠ 0 then (0, a, e) else match Leb.rdl Leb.fitS bits (l.drop a) 0 0 with
  | .ok n m => (Leb.ext n m, a + m / 7, 0)
  | .short => (0, a, 2)
  | .form => (0, a, 3)
theorem ru_le {l : List Int} {a : Nat} {e : Int} (h : a ≤ l.length) : (ru l a e).2.1 ≤ l.length := by
  unfold ru
  split
  · exact h
  · cases hr : Leb.rdl Leb.fitU 32 (l.drop a) 0 0 with
    | short => exact h
    | form => exact h
    | ok n m =>
      have hm := rdl_len _ _ _ _ _ hr
      rw [List.length_drop] at hm
      show a + m / 7 ≤ l.length
      omega
end Go.Proofs.YtffegkjlgeblbaaGreatDoor.Ins
end

section
/- The document's reader: the next instruction, kind by kind. -/
namespace Go.Proofs.YtffegkjlgeblbaaGreatDoor.Ins
open Go.RowKit Ints Typ
set_option maxRecDepth 100000
set_option maxHeartbeats 2000000

theorem But.trans' {g : Nat} {a w w' : World} (h : But g a w) (hs : w.heap.size ≤ w'.heap.size) (hk : ∀ k, k < a.heap.size → w'.heap[k]? = w.heap[k]?) (h1 : w'.os = w.os := by rfl) (h2 : w'.tape = w.tape := by rfl) (h3 : w'.output = w.output := by rfl) : But g a w' :=
  ⟨h1.trans h.os, h2.trans h.tape, h3.trans h.output, Nat.le_trans h.size hs, fun k hk1 hn => (hk k hk1).trans (h.block k hk1 hn)⟩
theorem But.setHigh {g : Nat} {a w : World} (h : But g a w) {p : Addr} (hp : a.heap.size ≤ p.block) (u : Value) : But g a (w.setCell p u) :=
  h.trans' (by simp [World.setCell]) (fun k hk => Below.heap_setCell _ _ _ _ (by omega))
theorem But.allocHigh {g : Nat} {a w : World} (h : But g a w) (o : Obj) : But g a (w.alloc o) := h.trans (But.of_below ((Below.refl _ _).alloc (Nat.le_refl _) _))
theorem RdAt.far {w : World} {g : Nat} {v : Value} {a e : Int} (h : RdAt w g v a e) {p : Addr} (hp : p.block ≠ g) (u : Value) : RdAt (w.setCell p u) g v a e := by
  obtain ⟨h0, c0, c1, c2, f0, f1, f2⟩ := h
  have key : ∀ i x, w.cell? ⟨g, i, none⟩ = some x → (w.setCell p u).cell? ⟨g, i, none⟩ = some x := fun i x hx => by rw [World.cell?_setCell_far w p ⟨g, i, none⟩ u hp]; exact hx
  exact ⟨by simp [World.setCell]; exact h0, key 0 _ c0, key 1 _ c1, key 2 _ c2, by rw [World.frozen?_setCell]; exact f0, by rw [World.frozen?_setCell]; exact f1, by rw [World.frozen?_setCell]; exact f2⟩
/-- An instruction in memory. -/
structure InAt (w : World) (h : Nat) (op A B K : Int) (o : Value) : Prop where
  lt : h < w.heap.size
  c0 : w.cell? ⟨h, 0, none⟩ = some (.int .i64 op)
  c1 : w.cell? ⟨h, 1, none⟩ = some (.int .i64 A)
  c2 : w.cell? ⟨h, 2, none⟩ = some (.int .i64 B)
  c3 : w.cell? ⟨h, 3, none⟩ = some (.int .u64 K)
  c4 : w.cell? ⟨h, 4, none⟩ = some o
  f0 : w.frozen? ⟨h, 0, none⟩ = false
  f1 : w.frozen? ⟨h, 1, none⟩ = false
  f2 : w.frozen? ⟨h, 2, none⟩ = false
  f3 : w.frozen? ⟨h, 3, none⟩ = false
  f4 : w.frozen? ⟨h, 4, none⟩ = false
theorem InAt.but {w w' : World} {g h : Nat} {op A B K : Int} {o : Value} (x : InAt w h op A B K o) (hb : But g w w') (hn : h ≠ g) : InAt w' h op A B K o := by
  obtain ⟨h0, c0, c1, c2, c3, c4, f0, f1, f2, f3, f4⟩ := x
  have key : ∀ i, w'.cell? ⟨h, i, none⟩ = w.cell? ⟨h, i, none⟩ := fun i => hb.cell (p := ⟨h, i, none⟩) h0 hn
  have fey : ∀ i, w'.frozen? ⟨h, i, none⟩ = w.frozen? ⟨h, i, none⟩ := fun i => hb.frozen (p := ⟨h, i, none⟩) h0 hn
  exact ⟨Nat.lt_of_lt_of_le h0 hb.size, by rw [key]; exact c0, by rw [key]; exact c1, by rw [key]; exact c2, by rw [key]; exact c3, by rw [key]; exact c4, by rw [fey]; exact f0, by rw [fey]; exact f1, by rw [fey]; exact f2, by rw [fey]; exact f3, by rw [fey]; exact f4⟩
theorem InAt.keep {w w' : World} {h : Nat} {op A B K : Int} {o : Value} (x : InAt w h op A B K o) (hb : Below w.heap.size w w') : InAt w' h op A B K o := x.but (But.of_below (g := h + 1) hb) (by omega)
theorem InAt.far {w : World} {h : Nat} {op A B K : Int} {o : Value} (x : InAt w h op A B K o) {p : Addr} (hp : p.block ≠ h) (u : Value) : InAt (w.setCell p u) h op A B K o := by
  obtain ⟨h0, c0, c1, c2, c3, c4, f0, f1, f2, f3, f4⟩ := x
  have key : ∀ i x, w.cell? ⟨h, i, none⟩ = some x → (w.setCell p u).cell? ⟨h, i, none⟩ = some x := fun i x hx => by rw [World.cell?_setCell_far w p ⟨h, i, none⟩ u hp]; exact hx
  exact ⟨by simp [World.setCell]; exact h0, key 0 _ c0, key 1 _ c1, key 2 _ c2, key 3 _ c3, key 4 _ c4, by rw [World.frozen?_setCell]; exact f0, by rw [World.frozen?_setCell]; exact f1, by rw [World.frozen?_setCell]; exact f2, by rw [World.frozen?_setCell]; exact f3, by rw [World.frozen?_setCell]; exact f4⟩
theorem InAt.at_ (w : World) (h : Nat) (op A B K : Int) (o : Value) (t : TypeId) (hh : h = w.heap.size) : InAt (w.alloc (.cells #[.int .i64 op, .int .i64 A, .int .i64 B, .int .u64 K, o] t)) h op A B K o := by
  subst hh
  exact ⟨by simp, by simp, by simp, by simp, by simp, by simp, by simp, by simp, by simp, by simp, by simp⟩
theorem InAt.setA {w : World} {h : Nat} {op A B K : Int} {o : Value} (y : InAt w h op A B K o) (x : Int) : InAt (w.setCell ⟨h, 1, none⟩ (.int .i64 x)) h op x B K o := by
  obtain ⟨h0, c0, c1, c2, c3, c4, f0, f1, f2, f3, f4⟩ := y
  exact ⟨by simp [World.setCell]; exact h0, by rw [World.cell?_setCell_other (h := by simp)]; exact c0, by apply World.cell?_setCell_same; exact c1, by rw [World.cell?_setCell_other (h := by simp)]; exact c2, by rw [World.cell?_setCell_other (h := by simp)]; exact c3, by rw [World.cell?_setCell_other (h := by simp)]; exact c4, by rw [World.frozen?_setCell]; exact f0, by rw [World.frozen?_setCell]; exact f1, by rw [World.frozen?_setCell]; exact f2, by rw [World.frozen?_setCell]; exact f3, by rw [World.frozen?_setCell]; exact f4⟩
theorem InAt.setB {w : World} {h : Nat} {op A B K : Int} {o : Value} (y : InAt w h op A B K o) (x : Int) : InAt (w.setCell ⟨h, 2, none⟩ (.int .i64 x)) h op A x K o := by
  obtain ⟨h0, c0, c1, c2, c3, c4, f0, f1, f2, f3, f4⟩ := y
  exact ⟨by simp [World.setCell]; exact h0, by rw [World.cell?_setCell_other (h := by simp)]; exact c0, by rw [World.cell?_setCell_other (h := by simp)]; exact c1, by apply World.cell?_setCell_same; exact c2, by rw [World.cell?_setCell_other (h := by simp)]; exact c3, by rw [World.cell?_setCell_other (h := by simp)]; exact c4, by rw [World.frozen?_setCell]; exact f0, by rw [World.frozen?_setCell]; exact f1, by rw [World.frozen?_setCell]; exact f2, by rw [World.frozen?_setCell]; exact f3, by rw [World.frozen?_setCell]; exact f4⟩
theorem InAt.setK {w : World} {h : Nat} {op A B K : Int} {o : Value} (y : InAt w h op A B K o) (x : Int) : InAt (w.setCell ⟨h, 3, none⟩ (.int .u64 x)) h op A B x o := by
  obtain ⟨h0, c0, c1, c2, c3, c4, f0, f1, f2, f3, f4⟩ := y
  exact ⟨by simp [World.setCell]; exact h0, by rw [World.cell?_setCell_other (h := by simp)]; exact c0, by rw [World.cell?_setCell_other (h := by simp)]; exact c1, by rw [World.cell?_setCell_other (h := by simp)]; exact c2, by apply World.cell?_setCell_same; exact c3, by rw [World.cell?_setCell_other (h := by simp)]; exact c4, by rw [World.frozen?_setCell]; exact f0, by rw [World.frozen?_setCell]; exact f1, by rw [World.frozen?_setCell]; exact f2, by rw [World.frozen?_setCell]; exact f3, by rw [World.frozen?_setCell]; exact f4⟩
theorem InAt.setL {w : World} {h : Nat} {op A B K : Int} {o : Value} (y : InAt w h op A B K o) (x : Value) : InAt (w.setCell ⟨h, 4, none⟩ (x)) h op A B K x := by
  obtain ⟨h0, c0, c1, c2, c3, c4, f0, f1, f2, f3, f4⟩ := y
  exact ⟨by simp [World.setCell]; exact h0, by rw [World.cell?_setCell_other (h := by simp)]; exact c0, by rw [World.cell?_setCell_other (h := by simp)]; exact c1, by rw [World.cell?_setCell_other (h := by simp)]; exact c2, by rw [World.cell?_setCell_other (h := by simp)]; exact c3, by apply World.cell?_setCell_same; exact c4, by rw [World.frozen?_setCell]; exact f0, by rw [World.frozen?_setCell]; exact f1, by rw [World.frozen?_setCell]; exact f2, by rw [World.frozen?_setCell]; exact f3, by rw [World.frozen?_setCell]; exact f4⟩
/-- Whole numbers of the call's own (nil, if there are none yet). -/
def vi (l : List Int) : List Value := l.map (Value.int .i64)
def OwnI (w : World) (B : Nat) (v : Value) (l : List Int) : Prop := w.ownsRow B 3 1 v l.length (vi l)
theorem ownI_nil (w : World) (B : Nat) : OwnI w B (.slice none 0 0) [] := ⟨rfl, .inl ⟨rfl, rfl⟩⟩
/-- An instruction, told; the place; the error. -/
def InTold (v : Value) (g : Nat) (op A B K : Int) (L : List Int) (a : Nat) (e : Int) (w : World) (en : Ending) (w' : World) : Prop :=
  ∃ o, en = .returned (.agg #[.int .i64 op, .int .i64 A, .int .i64 B, .int .u64 K, o]) ∧ OwnI w' w.heap.size o L ∧ RdAt w' g v (a : Int) e ∧ But g w w'
theorem Rd.far {w0 w : World} {v : Value} {l : List Int} {g a : Nat} {e : Int} (h : Rd w0 v l g w a e) {p : Addr} (hp : p.block ≠ g) (hq : w0.heap.size ≤ p.block) (u : Value) : Rd w0 v l g (w.setCell p u) a e :=
  ⟨h.sl, h.by_, h.len, h.at_le, h.base, h.below.setCell hq u, h.rd.far hp u⟩
end Go.Proofs.YtffegkjlgeblbaaGreatDoor.Ins
end

section
/- The document's reader: a BrTable. -/
namespace Go.Proofs.YtffegkjlgeblbaaGreatDoor.Ins
open Go.RowKit Ints Typ
set_option maxRecDepth 100000
set_option maxHeartbeats 2000000

/-- The labels. -/
def lb (l : List Int) : Nat → List Int → Nat → Int → List Int × Nat × Int
  | 0, L, a, e => (L, a, e)
  | n + 1, L, a, e => if e = 0 then lb l n (L ++ [(ru l a e).1]) (ru l a e).2.1 (ru l a e).2.2 else (L, a, e)
theorem lb_err {l : List Int} {n : Nat} {L : List Int} {a : Nat} {e : Int} (h : e ≠ 0) : lb l n L a e = (L, a, e) := by
  cases n
  · rfl
  · exact if_neg h
theorem OwnI.at_ {w w' : World} {B : Nat} {v : Value} {l : List Int} (h : OwnI w B v l) (hk : ∀ k, B ≤ k → k < w.heap.size → w'.heap[k]? = w.heap[k]?) : OwnI w' B v l := by
  obtain ⟨h1, h2⟩ := h
  refine ⟨h1, ?_⟩
  rcases h2 with h2 | ⟨g, cap, cur, e1, e2, e3, e4⟩
  · exact .inl h2
  · exact .inr ⟨g, cap, cur, e1, e2, (hk g e2 (Array.getElem?_eq_some_iff.1 e3).1).trans e3, e4⟩
theorem OwnI.mono {w : World} {B B' : Nat} {v : Value} {l : List Int} (h : OwnI w B v l) (hB : B' ≤ B) : OwnI w B' v l := by
  obtain ⟨h1, h2⟩ := h
  refine ⟨h1, ?_⟩
  rcases h2 with h2 | ⟨g, cap, cur, e1, e2, e3⟩
  · exact .inl h2
  · exact .inr ⟨g, cap, cur, e1, Nat.le_trans hB e2, e3⟩
theorem OwnI.form {w : World} {B : Nat} {v : Value} {l : List Int} (h : OwnI w B v l) : ∃ P c, v = .slice P l.length c := by
  rcases h.2 with ⟨e, hn⟩ | ⟨p, c, _, e, _⟩
  · exact ⟨none, 0, by rw [e, hn]⟩
  · exact ⟨_, c, e⟩
theorem OwnI.but {w w' : World} {g B : Nat} {v : Value} {l : List Int} (h : OwnI w B v l) (hb : But g w w') (hg : g < B) : OwnI w' B v l := h.at_ fun k hk hl => hb.block k hl (by omega)
theorem OwnI.far {w : World} {B : Nat} {v : Value} {l : List Int} (h : OwnI w B v l) {p : Addr} (hp : p.block < B) (u : Value) : OwnI (w.setCell p u) B v l := h.at_ fun k hk _ => Below.heap_setCell _ _ _ _ (by omega)
theorem OwnI.keep {w w' : World} {B : Nat} {v : Value} {l : List Int} (h : OwnI w B v l) (hb : Below w.heap.size w w') : OwnI w' B v l := h.at_ fun k _ hl => hb.block k hl
theorem RdAt.kept {w w' : World} {g B : Nat} {v : Value} {a e : Int} (h : RdAt w g v a e) (hb : Below B w w') (hg : g < B) : RdAt w' g v a e :=
  ⟨Nat.lt_of_lt_of_le h.lt hb.size, by rw [hb.cell (p := ⟨g, 0, none⟩) hg]; exact h.c0, by rw [hb.cell (p := ⟨g, 1, none⟩) hg]; exact h.c1, by rw [hb.cell (p := ⟨g, 2, none⟩) hg]; exact h.c2,
    by rw [hb.frozen (p := ⟨g, 0, none⟩) hg]; exact h.f0, by rw [hb.frozen (p := ⟨g, 1, none⟩) hg]; exact h.f1, by rw [hb.frozen (p := ⟨g, 2, none⟩) hg]; exact h.f2⟩
theorem Rd.kept {w0 w w' : World} {v : Value} {l : List Int} {g a B : Nat} {e : Int} (h : Rd w0 v l g w a e) (hb : Below B w w') (hg : g < B) (h0 : w0.heap.size ≤ B) : Rd w0 v l g w' a e :=
  ⟨h.sl, h.by_, h.len, h.at_le, h.base, h.below.trans (hb.mono h0), h.rd.kept hb hg⟩
theorem InAt.kept {w w' : World} {h B : Nat} {op A B' K : Int} {o : Value} (x : InAt w h op A B' K o) (hb : Below B w w') (hh : h < B) : InAt w' h op A B' K o := by
  obtain ⟨h0, c0, c1, c2, c3, c4, f0, f1, f2, f3, f4⟩ := x
  have key : ∀ i, w'.cell? ⟨h, i, none⟩ = w.cell? ⟨h, i, none⟩ := fun i => hb.cell (p := ⟨h, i, none⟩) hh
  have fey : ∀ i, w'.frozen? ⟨h, i, none⟩ = w.frozen? ⟨h, i, none⟩ := fun i => hb.frozen (p := ⟨h, i, none⟩) hh
  exact ⟨Nat.lt_of_lt_of_le h0 hb.size, by rw [key]; exact c0, by rw [key]; exact c1, by rw [key]; exact c2, by rw [key]; exact c3, by rw [key]; exact c4, by rw [fey]; exact f0, by rw [fey]; exact f1, by rw [fey]; exact f2, by rw [fey]; exact f3, by rw [fey]; exact f4⟩
theorem But.kept {g B : Nat} {a w w' : World} (h : But g a w) (hb : Below B w w') (hB : a.heap.size ≤ B) : But g a w' := h.trans' hb.size (fun k hk => hb.block k (by omega)) hb.os hb.tape hb.output
theorem drewB (w : World) : Below w.heap.size w w.drew := ⟨rfl, rfl, rfl, Nat.le_refl _, fun _ _ => rfl⟩
theorem int_info : (Tryz.prog.info? 3).map (fun i => (i.zero, i.size, i.bytes)) = some (some (.int .i64 0), 1, 8) := by kernel_rfl
theorem one_newI (w : World) (v : Value) : ∀ j u, [v][j]? = some u → (w.alloc (.cells #[v] 3)).cell? ((⟨w.heap.size, 0, none⟩ : Addr).add j) = some u := by
  intro j u hu
  rcases j with _ | j
  · simp at hu
    subst hu
    simp [Addr.add]
  · simp at hu
end Go.Proofs.YtffegkjlgeblbaaGreatDoor.Ins
end

section
/- The document's reader: an instruction, of whatever kind. -/
namespace Go.Proofs.YtffegkjlgeblbaaGreatDoor.Ins
open Go.RowKit Ints Typ
set_option maxRecDepth 100000
set_option maxHeartbeats 1000000

/-- An instruction. -/
structure Ins where
  op : Int
  A : Int
  B : Int
  K : Int
  L : List Int
/-- The next instruction; the place behind it; the error. -/
def ri (l : List Int) (a : Nat) (e : Int) : Ins × Nat × Int :=
  let p := rb l a e
  if kd p.1 = 0 then (⟨p.1, 0, 0, 0, []⟩, p.2.1, rf true p.2.2 3)
  else if kd p.1 = 1 then (⟨p.1, 0, 0, 0, []⟩, p.2.1, p.2.2)
  else if kd p.1 = 2 then
    let q := rb l p.2.1 p.2.2
    (⟨p.1, if q.1 = 64 then 0 else q.1, 0, 0, []⟩, q.2.1, rf (q.1 != 64 && (q.1 != 126 && q.1 != 127)) q.2.2 3)
  else if kd p.1 = 3 then
    let q := ru l p.2.1 p.2.2
    (⟨p.1, q.1, 0, 0, []⟩, q.2.1, q.2.2)
  else if kd p.1 = 4 then
    let q := ru l p.2.1 p.2.2
    let r := lb l q.1.toNat [] q.2.1 (rf (decide (64 < q.1)) q.2.2 4)
    let s := ru l r.2.1 r.2.2
    (⟨p.1, s.1, 0, 0, r.1⟩, s.2.1, s.2.2)
  else if kd p.1 = 5 then
    let q := ru l p.2.1 p.2.2
    let r := rb l q.2.1 q.2.2
    (⟨p.1, q.1, 0, 0, []⟩, r.2.1, rf (r.1 != 0) r.2.2 3)
  else if kd p.1 = 6 then
    let q := ru l p.2.1 p.2.2
    let r := ru l q.2.1 q.2.2
    (⟨p.1, q.1, r.1, 0, []⟩, r.2.1, r.2.2)
  else if kd p.1 = 7 then
    let r := rb l p.2.1 p.2.2
    (⟨p.1, 0, 0, 0, []⟩, r.2.1, rf (r.1 != 0) r.2.2 3)
  else if kd p.1 = 8 then
    let q := rs 32 l p.2.1 p.2.2
    (⟨p.1, 0, 0, vaT 127 q.1, []⟩, q.2.1, q.2.2)
  else
    let q := rs 64 l p.2.1 p.2.2
    (⟨p.1, 0, 0, IntKind.u64.wrap q.1, []⟩, q.2.1, q.2.2)
theorem ru_nat (l : List Int) (a : Nat) (e : Int) : (((ru l a e).1.toNat : Nat) : Int) = (ru l a e).1 := by
  unfold ru
  split
  · rfl
  · cases Leb.rdl Leb.fitU 32 (l.drop a) 0 0 <;> simp
def InsTold (v : Value) (g : Nat) (x : Ins × Nat × Int) (w : World) (en : Ending) (w' : World) : Prop := InTold v g x.1.op x.1.A x.1.B x.1.K x.1.L x.2.1 x.2.2 w en w'
end Go.Proofs.YtffegkjlgeblbaaGreatDoor.Ins
end

section
/- The document's Read. -/
namespace Go.Proofs.YtffegkjlgeblbaaGreatDoor.Ins
open Go.RowKit Ints Typ
set_option maxRecDepth 100000
set_option maxHeartbeats 2000000

def NoIns : Value := .agg #[.int .i64 0, .int .i64 0, .int .i64 0, .int .u64 0, .slice none 0 0]
theorem RdAt.at_ (w : World) (g : Nat) (v : Value) (a e : Int) (t : TypeId) (hh : g = w.heap.size) : RdAt (w.alloc (.cells #[v, .int .i64 a, .int .i64 e] t)) g v a e := by
  subst hh
  exact ⟨by simp, by simp, by simp, by simp, by simp, by simp, by simp⟩
/-- An instruction, a place, an error: told. -/
def RiTold (x : Ins × Int × Int) (w : World) (en : Ending) (w' : World) : Prop :=
  ∃ o, en = .returned (.tuple #[.agg #[.int .i64 x.1.op, .int .i64 x.1.A, .int .i64 x.1.B, .int .u64 x.1.K, o], .int .i64 x.2.1, .int .i64 x.2.2]) ∧ OwnI w' w.heap.size o x.1.L ∧ Below w.heap.size w w'
/-- What stands at a place, by the document. -/
def rdo (l : List Int) (at_ : Int) : Ins × Int × Int :=
  if at_ < 0 ∨ (l.length : Int) < at_ then (⟨0, 0, 0, 0, []⟩, 0, 1)
  else if (ri l at_.toNat 0).2.2 = 0 then ((ri l at_.toNat 0).1, ((ri l at_.toNat 0).2.1 : Nat), 0) else (⟨0, 0, 0, 0, []⟩, 0, (ri l at_.toNat 0).2.2)
end Go.Proofs.YtffegkjlgeblbaaGreatDoor.Ins
end

section
/- The document's Same: whether two instructions are the same. -/
namespace Go.Proofs.YtffegkjlgeblbaaGreatDoor.Ins
open Go.RowKit Ints Typ
set_option maxRecDepth 100000
set_option maxHeartbeats 2000000

/-- Whole numbers: none at all (wherever), or a row of them somewhere. -/
def SlI (w : World) (v : Value) (l : List Int) : Prop :=
  ∃ A c, v = .slice A l.length c ∧ l.length ≤ c ∧ c ≤ 9223372036854775807 ∧ (l ≠ [] → ∃ g off, A = some ⟨g, off, none⟩ ∧ g < w.heap.size ∧ ∀ j, j < l.length → w.cell? ⟨g, off + j, none⟩ = some (.int .i64 (l.getD j 0)))
theorem SlI.keep {w w' : World} {v : Value} {l : List Int} (h : SlI w v l) (hb : Below w.heap.size w w') : SlI w' v l := by
  obtain ⟨A, c, h1, h2, h3, h4⟩ := h
  refine ⟨A, c, h1, h2, h3, fun h0 => ?_⟩
  obtain ⟨g, off, e, hg, hB⟩ := h4 h0
  exact ⟨g, off, e, Nat.lt_of_lt_of_le hg hb.size, fun j hj => by rw [hb.cell (p := ⟨g, off + j, none⟩) hg]; exact hB j hj⟩
theorem SlI.nil (w : World) : SlI w (.slice none 0 0) [] := ⟨none, 0, rfl, Nat.le_refl _, by omega, fun h => absurd rfl h⟩
theorem SlI.at_ {w : World} {A : Option Addr} {n c : Nat} {l : List Int} (h : SlI w (.slice A n c) l) {j : Nat} (hj : j < l.length) : ∃ g off, A = some ⟨g, off, none⟩ ∧ w.cell? ⟨g, off + j, none⟩ = some (.int .i64 (l.getD j 0)) := by
  obtain ⟨A', c', h1, h2, h3, h4⟩ := h
  cases h1
  obtain ⟨g, off, e, _, hB⟩ := h4 (fun h0 => by rw [h0] at hj; exact absurd hj (Nat.not_lt_zero _))
  exact ⟨g, off, e, hB j hj⟩
theorem drewNB (w : World) (n : Nat) {B : Nat} (_ : B ≤ w.heap.size) : Below B w (w.drewN n) := ⟨rfl, rfl, rfl, Nat.le_refl _, fun _ _ => rfl⟩
end Go.Proofs.YtffegkjlgeblbaaGreatDoor.Ins
end
