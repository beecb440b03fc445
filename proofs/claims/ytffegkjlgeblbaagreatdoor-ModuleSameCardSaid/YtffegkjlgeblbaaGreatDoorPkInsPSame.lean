/- InsKind, InsReader, InsNum, InsInstr, InsTable, InsRead, InsDoc, InsSame, InsPKind, InsPSame. -/
import Derived.Test.YtffegkjlgeblbaaGreatDoorIntsAll
import Derived.Test.YtffegkjlgeblbaaGreatDoorLebTwo
import Derived.Deep.QuietTactic
import Derived.BigQuiet
import Derived.Test.YtffegkjlgeblbaaGreatDoorStabAll
import Derived.Deep.RegionHeld
import Derived.Deep.RegionLaw
section
/- Which kind a code is of, by the document. -/
namespace Go.Proofs.YtffegkjlgeblbaaGreatDoor.Ins
open Go.RowKit Ints Typ
set_option maxRecDepth 100000
set_option maxHeartbeats 1000000

def kd (op : Int) : Int :=
  if 2 ≤ op ∧ op ≤ 4 then 2 else if op = 12 ∨ op = 13 ∨ op = 16 ∨ (32 ≤ op ∧ op ≤ 36) then 3 else if op = 14 then 4 else if op = 17 then 5
  else if op = 40 ∨ op = 41 ∨ (44 ≤ op ∧ op ≤ 55) ∨ (58 ≤ op ∧ op ≤ 62) then 6 else if op = 63 ∨ op = 64 then 7 else if op = 65 then 8 else if op = 66 then 9
  else if op = 0 ∨ op = 1 ∨ op = 5 ∨ op = 11 ∨ op = 15 ∨ op = 26 ∨ op = 27 then 1 else if (69 ≤ op ∧ op ≤ 90) ∨ (103 ≤ op ∧ op ≤ 138) ∨ op = 167 ∨ op = 172 ∨ op = 173 then 1 else 0
theorem kd_range (op : Int) : 0 ≤ kd op ∧ kd op ≤ 9 := by
  unfold kd
  repeat' (first | (split; omega) | omega)
theorem kd_low {op : Int} (h : op < 0) : kd op = 0 := by unfold kd; iterate 10 (rw [if_neg (by omega)])
theorem kd_high {op : Int} (h : 173 < op) : kd op = 0 := by unfold kd; iterate 10 (rw [if_neg (by omega)])
theorem kd_code {op : Int} (h : kd op ≠ 0) : 0 ≤ op ∧ op ≤ 173 := by
  refine ⟨?_, ?_⟩
  · by_cases h0 : op < 0
    · exact absurd (kd_low h0) h
    · omega
  · by_cases h0 : 173 < op
    · exact absurd (kd_high h0) h
    · omega
def KdTold (op : Int) (w : World) (e : Ending) (w' : World) : Prop := e = .returned (.int .i64 (kd op)) ∧ Below w.heap.size w w'
end Go.Proofs.YtffegkjlgeblbaaGreatDoor.Ins
end

section
/- The document's reader: bytes, a place, the first error; each of its calls turns its own three cells alone. -/
namespace Go.Proofs.YtffegkjlgeblbaaGreatDoor.Ins
open Go.RowKit Ints Typ
set_option maxRecDepth 100000
set_option maxHeartbeats 1000000

structure But (g : Nat) (w w' : World) : Prop where
  os : w'.os = w.os
  tape : w'.tape = w.tape
  output : w'.output = w.output
  size : w.heap.size ≤ w'.heap.size
  block : ∀ k, k < w.heap.size → k ≠ g → w'.heap[k]? = w.heap[k]?
theorem But.trans {g : Nat} {a b c : World} (h : But g a b) (k : But g b c) : But g a c :=
  ⟨k.os.trans h.os, k.tape.trans h.tape, k.output.trans h.output, Nat.le_trans h.size k.size, fun i hi hn => (k.block i (Nat.lt_of_lt_of_le hi h.size) hn).trans (h.block i hi hn)⟩
theorem But.of_below {g : Nat} {w w' : World} (h : Below w.heap.size w w') : But g w w' := ⟨h.os, h.tape, h.output, h.size, fun k hk _ => h.block k hk⟩
theorem But.below {g B : Nat} {w w' : World} (h : But g w w') (hB : B ≤ g) (hg : g < w.heap.size) : Below B w w' := ⟨h.os, h.tape, h.output, h.size, fun k hk => h.block k (by omega) (by omega)⟩
theorem But.cell {g : Nat} {w w' : World} (h : But g w w') {p : Addr} (hp : p.block < w.heap.size) (hn : p.block ≠ g) : w'.cell? p = w.cell? p := World.cell?_of_block (w := w) (h.block p.block hp hn)
theorem But.frozen {g : Nat} {w w' : World} (h : But g w w') {p : Addr} (hp : p.block < w.heap.size) (hn : p.block ≠ g) : w'.frozen? p = w.frozen? p := World.frozen?_of_block (w := w) (h.block p.block hp hn)
theorem But.setCell {g : Nat} {a w : World} (h : But g a w) {p : Addr} (hp : p.block = g) (u : Value) : But g a (w.setCell p u) :=
  h.trans ⟨rfl, rfl, rfl, by simp [World.setCell], fun k _ hk => Below.heap_setCell _ _ _ _ (by omega)⟩
def rb (l : List Int) (at_ : Nat) (e : Int) : Int × Nat × Int := if e ≠ 0 then (0, at_, e) else if l.length ≤ at_ then (0, at_, 2) else (l.getD at_ 0, at_ + 1, 0)
theorem rb_in {l : List Int} {a : Nat} (h : a < l.length) : rb l a 0 = (l.getD a 0, a + 1, 0) := (if_neg (by simp)).trans (if_neg (by omega))
def rf (is : Bool) (e err : Int) : Int := bif is then (if e = 0 then err else e) else e
end Go.Proofs.YtffegkjlgeblbaaGreatDoor.Ins
end

section
/- The document's reader: the next number, with its sign or without. -/
namespace Go.Proofs.YtffegkjlgeblbaaGreatDoor.Ins
open Go.RowKit Ints Typ
set_option maxRecDepth 100000
set_option maxHeartbeats 1000000

theorem run_ld (A : Option Addr) (n c g o : Nat) (W : World) (h : W.cell? ⟨g, o, none⟩ = some (.slice A n c)) : (Instr.loadAt 22 (.pointer (some ⟨g, o, none⟩))).run Tryz.prog W = .ok (.slice A n c) W := by go_simp
theorem run_li (x : Int) (g o : Nat) (W : World) (h : W.cell? ⟨g, o, none⟩ = some (.int .i64 x)) : (Instr.loadAt 3 (.pointer (some ⟨g, o, none⟩))).run Tryz.prog W = .ok (.int .i64 x) W := by go_simp
def ru (l : List Int) (a : Nat) (e : Int) : Int × Nat × Int := if e ≠ 0 then (0, a, e) else match Leb.rdl Leb.fitU 32 (l.drop a) 0 0 with
  | .ok n m => ((n : Int), a + m / 7, 0)
  | .short => (0, a, 2)
  | .form => (0, a, 3)
def rs (bits : Nat) (l : List Int) (a : Nat) (e : Int) : Int × Nat × Int := if e ≠ 0 then (0, a, e) else match Leb.rdl Leb.fitS bits (l.drop a) 0 0 with
  | .ok n m => (Leb.ext n m, a + m / 7, 0)
  | .short => (0, a, 2)
  | .form => (0, a, 3)
theorem ru_le {l : List Int} {a : Nat} {e : Int} (h : a ≤ l.length) : (ru l a e).2.1 ≤ l.length := by
  unfold ru
  split
  · exact h
  · cases hr : Leb.rdl Leb.fitU 32 (l.drop a) 0 0 with
    | short => exact h
    | form => exact h
    | ok n m =>
      have hm := rdl_len _ _ _ _ _ hr
      rw [List.length_drop] at hm
      show a + m / 7 ≤ l.length
      omega
end Go.Proofs.YtffegkjlgeblbaaGreatDoor.Ins
end

section
/- The document's reader: the next instruction, kind by kind. -/
namespace Go.Proofs.YtffegkjlgeblbaaGreatDoor.Ins
open Go.RowKit Ints Typ
set_option maxRecDepth 100000
set_option maxHeartbeats 2000000

structure InAt (w : World) (h : Nat) (op A B K : Int) (o : Value) : Prop where
  lt : h < w.heap.size
  c0 : w.cell? ⟨h, 0, none⟩ = some (.int .i64 op)
  c1 : w.cell? ⟨h, 1, none⟩ = some (.int .i64 A)
  c2 : w.cell? ⟨h, 2, none⟩ = some (.int .i64 B)
  c3 : w.cell? ⟨h, 3, none⟩ = some (.int .u64 K)
  c4 : w.cell? ⟨h, 4, none⟩ = some o
  f0 : w.frozen? ⟨h, 0, none⟩ = false
  f1 : w.frozen? ⟨h, 1, none⟩ = false
  f2 : w.frozen? ⟨h, 2, none⟩ = false
  f3 : w.frozen? ⟨h, 3, none⟩ = false
  f4 : w.frozen? ⟨h, 4, none⟩ = false
theorem InAt.but {w w' : World} {g h : Nat} {op A B K : Int} {o : Value} (x : InAt w h op A B K o) (hb : But g w w') (hn : h ≠ g) : InAt w' h op A B K o := by
  obtain ⟨h0, c0, c1, c2, c3, c4, f0, f1, f2, f3, f4⟩ := x
  have key : ∀ i, w'.cell? ⟨h, i, none⟩ = w.cell? ⟨h, i, none⟩ := fun i => hb.cell (p := ⟨h, i, none⟩) h0 hn
  have fey : ∀ i, w'.frozen? ⟨h, i, none⟩ = w.frozen? ⟨h, i, none⟩ := fun i => hb.frozen (p := ⟨h, i, none⟩) h0 hn
  exact ⟨Nat.lt_of_lt_of_le h0 hb.size, by rw [key]; exact c0, by rw [key]; exact c1, by rw [key]; exact c2, by rw [key]; exact c3, by rw [key]; exact c4, by rw [fey]; exact f0, by rw [fey]; exact f1, by rw [fey]; exact f2, by rw [fey]; exact f3, by rw [fey]; exact f4⟩
theorem InAt.keep {w w' : World} {h : Nat} {op A B K : Int} {o : Value} (x : InAt w h op A B K o) (hb : Below w.heap.size w w') : InAt w' h op A B K o := x.but (But.of_below (g := h + 1) hb) (by omega)
theorem InAt.at_ (w : World) (h : Nat) (op A B K : Int) (o : Value) (t : TypeId) (hh : h = w.heap.size) : InAt (w.alloc (.cells #[.int .i64 op, .int .i64 A, .int .i64 B, .int .u64 K, o] t)) h op A B K o := by
  subst hh
  exact ⟨by simp, by simp, by simp, by simp, by simp, by simp, by simp, by simp, by simp, by simp, by simp⟩
def vi (l : List Int) : List Value := l.map (Value.int .i64)
def OwnI (w : World) (B : Nat) (v : Value) (l : List Int) : Prop := w.ownsRow B 3 1 v l.length (vi l)
theorem ownI_nil (w : World) (B : Nat) : OwnI w B (.slice none 0 0) [] := ⟨rfl, .inl ⟨rfl, rfl⟩⟩
end Go.Proofs.YtffegkjlgeblbaaGreatDoor.Ins
end

section
/- The document's reader: a BrTable. -/
namespace Go.Proofs.YtffegkjlgeblbaaGreatDoor.Ins
open Go.RowKit Ints Typ
set_option maxRecDepth 100000
set_option maxHeartbeats 2000000

def lb (l : List Int) : Nat → List Int → Nat → Int → List Int × Nat × Int
  | 0, L, a, e => (L, a, e)
  | n + 1, L, a, e => if e = 0 then lb l n (L ++ [(ru l a e).1]) (ru l a e).2.1 (ru l a e).2.2 else (L, a, e)
theorem OwnI.form {w : World} {B : Nat} {v : Value} {l : List Int} (h : OwnI w B v l) : ∃ P c, v = .slice P l.length c := by
  rcases h.2 with ⟨e, hn⟩ | ⟨p, c, _, e, _⟩
  · exact ⟨none, 0, by rw [e, hn]⟩
  · exact ⟨_, c, e⟩
theorem drewB (w : World) : Below w.heap.size w w.drew := ⟨rfl, rfl, rfl, Nat.le_refl _, fun _ _ => rfl⟩
theorem int_info : (Tryz.prog.info? 3).map (fun i => (i.zero, i.size, i.bytes)) = some (some (.int .i64 0), 1, 8) := by kernel_rfl
end Go.Proofs.YtffegkjlgeblbaaGreatDoor.Ins
end

section
/- The document's reader: an instruction, of whatever kind. -/
namespace Go.Proofs.YtffegkjlgeblbaaGreatDoor.Ins
open Go.RowKit Ints Typ
set_option maxRecDepth 100000
set_option maxHeartbeats 1000000

structure Ins where
  op : Int
  A : Int
  B : Int
  K : Int
  L : List Int
def ri (l : List Int) (a : Nat) (e : Int) : Ins × Nat × Int :=
  let p := rb l a e
  if kd p.1 = 0 then (⟨p.1, 0, 0, 0, []⟩, p.2.1, rf true p.2.2 3)
  else if kd p.1 = 1 then (⟨p.1, 0, 0, 0, []⟩, p.2.1, p.2.2)
  else if kd p.1 = 2 then
    let q := rb l p.2.1 p.2.2
    (⟨p.1, if q.1 = 64 then 0 else q.1, 0, 0, []⟩, q.2.1, rf (q.1 != 64 && (q.1 != 126 && q.1 != 127)) q.2.2 3)
  else if kd p.1 = 3 then
    let q := ru l p.2.1 p.2.2
    (⟨p.1, q.1, 0, 0, []⟩, q.2.1, q.2.2)
  else if kd p.1 = 4 then
    let q := ru l p.2.1 p.2.2
    let r := lb l q.1.toNat [] q.2.1 (rf (decide (64 < q.1)) q.2.2 4)
    let s := ru l r.2.1 r.2.2
    (⟨p.1, s.1, 0, 0, r.1⟩, s.2.1, s.2.2)
  else if kd p.1 = 5 then
    let q := ru l p.2.1 p.2.2
    let r := rb l q.2.1 q.2.2
    (⟨p.1, q.1, 0, 0, []⟩, r.2.1, rf (r.1 != 0) r.2.2 3)
  else if kd p.1 = 6 then
    let q := ru l p.2.1 p.2.2
    let r := ru l q.2.1 q.2.2
    (⟨p.1, q.1, r.1, 0, []⟩, r.2.1, r.2.2)
  else if kd p.1 = 7 then
    let r := rb l p.2.1 p.2.2
    (⟨p.1, 0, 0, 0, []⟩, r.2.1, rf (r.1 != 0) r.2.2 3)
  else if kd p.1 = 8 then
    let q := rs 32 l p.2.1 p.2.2
    (⟨p.1, 0, 0, vaT 127 q.1, []⟩, q.2.1, q.2.2)
  else
    let q := rs 64 l p.2.1 p.2.2
    (⟨p.1, 0, 0, IntKind.u64.wrap q.1, []⟩, q.2.1, q.2.2)
theorem ru_nat (l : List Int) (a : Nat) (e : Int) : (((ru l a e).1.toNat : Nat) : Int) = (ru l a e).1 := by
  unfold ru
  split
  · rfl
  · cases Leb.rdl Leb.fitU 32 (l.drop a) 0 0 <;> simp
end Go.Proofs.YtffegkjlgeblbaaGreatDoor.Ins
end

section
/- The document's Read. -/
namespace Go.Proofs.YtffegkjlgeblbaaGreatDoor.Ins
open Go.RowKit Ints Typ
set_option maxRecDepth 100000
set_option maxHeartbeats 2000000

def rdo (l : List Int) (at_ : Int) : Ins × Int × Int :=
  if at_ < 0 ∨ (l.length : Int) < at_ then (⟨0, 0, 0, 0, []⟩, 0, 1)
  else if (ri l at_.toNat 0).2.2 = 0 then ((ri l at_.toNat 0).1, ((ri l at_.toNat 0).2.1 : Nat), 0) else (⟨0, 0, 0, 0, []⟩, 0, (ri l at_.toNat 0).2.2)
end Go.Proofs.YtffegkjlgeblbaaGreatDoor.Ins
end

section
/- The document's Same: whether two instructions are the same. -/
namespace Go.Proofs.YtffegkjlgeblbaaGreatDoor.Ins
open Go.RowKit Ints Typ
set_option maxRecDepth 100000
set_option maxHeartbeats 2000000

def SlI (w : World) (v : Value) (l : List Int) : Prop :=
  ∃ A c, v = .slice A l.length c ∧ l.length ≤ c ∧ c ≤ 9223372036854775807 ∧ (l ≠ [] → ∃ g off, A = some ⟨g, off, none⟩ ∧ g < w.heap.size ∧ ∀ j, j < l.length → w.cell? ⟨g, off + j, none⟩ = some (.int .i64 (l.getD j 0)))
theorem SlI.keep {w w' : World} {v : Value} {l : List Int} (h : SlI w v l) (hb : Below w.heap.size w w') : SlI w' v l := by
  obtain ⟨A, c, h1, h2, h3, h4⟩ := h
  refine ⟨A, c, h1, h2, h3, fun h0 => ?_⟩
  obtain ⟨g, off, e, hg, hB⟩ := h4 h0
  exact ⟨g, off, e, Nat.lt_of_lt_of_le hg hb.size, fun j hj => by rw [hb.cell (p := ⟨g, off + j, none⟩) hg]; exact hB j hj⟩
theorem SlI.len_le {w : World} {v : Value} {l : List Int} (h : SlI w v l) : l.length ≤ 9223372036854775807 := by
  obtain ⟨_, _, _, h2, h3, _⟩ := h
  omega
theorem SlI.nil (w : World) : SlI w (.slice none 0 0) [] := ⟨none, 0, rfl, Nat.le_refl _, by omega, fun h => absurd rfl h⟩
theorem SlI.at_ {w : World} {A : Option Addr} {n c : Nat} {l : List Int} (h : SlI w (.slice A n c) l) {j : Nat} (hj : j < l.length) : ∃ g off, A = some ⟨g, off, none⟩ ∧ w.cell? ⟨g, off + j, none⟩ = some (.int .i64 (l.getD j 0)) := by
  obtain ⟨A', c', h1, h2, h3, h4⟩ := h
  cases h1
  obtain ⟨g, off, e, _, hB⟩ := h4 (fun h0 => by rw [h0] at hj; exact absurd hj (Nat.not_lt_zero _))
  exact ⟨g, off, e, hB j hj⟩
def iv (x : Ins) (o : Value) : Value := .agg #[.int .i64 x.op, .int .i64 x.A, .int .i64 x.B, .int .u64 x.K, o]
def smI (x y : Ins) : Bool := decide (x.op = y.op ∧ x.A = y.A ∧ x.B = y.B ∧ x.K = y.K ∧ x.L = y.L)
theorem drewNB (w : World) (n : Nat) {B : Nat} (_ : B ≤ w.heap.size) : Below B w (w.drewN n) := ⟨rfl, rfl, rfl, Nat.le_refl _, fun _ _ => rfl⟩
theorem take_eq {a b : List Int} {k : Nat} (h : a.take k = b.take k) (ha : k < a.length) (hb : k < b.length) (hq : (a.getD k 0 != b.getD k 0) = false) : a.take (k + 1) = b.take (k + 1) := by
  rw [List.take_add_one, List.take_add_one, h]
  congr 1
  rw [List.getElem?_eq_getElem ha, List.getElem?_eq_getElem hb]
  have : a.getD k 0 = b.getD k 0 := by simpa using hq
  rw [List.getD_eq_getElem?_getD, List.getD_eq_getElem?_getD, List.getElem?_eq_getElem ha, List.getElem?_eq_getElem hb] at this
  simpa using this
theorem of_take_ne {a b : List Int} {k : Nat} (hq : (a.getD k 0 != b.getD k 0) = true) : ¬ a = b := by
  rintro rfl
  simp at hq
end Go.Proofs.YtffegkjlgeblbaaGreatDoor.Ins
end

section
/- The program's tables, and what it reads of them: kinds, accesses. -/
namespace Go.Proofs.YtffegkjlgeblbaaGreatDoor.Ins
open Go.RowKit Ints Typ
set_option maxRecDepth 100000
set_option maxHeartbeats 1000000

def KTab (w : World) : Prop := 1 < w.heap.size ∧ ∀ r : Nat, r < 174 → w.cell? ⟨1, r, none⟩ = some (.int .u8 (kd (r : Int)))
theorem KTab.keep {w w' : World} (h : KTab w) (hb : Below w.heap.size w w') : KTab w' :=
  ⟨Nat.lt_of_lt_of_le h.1 hb.size, fun r hr => by rw [hb.cell (p := ⟨1, r, none⟩) h.1]; exact h.2 r hr⟩
theorem kind_low (op : Int) (w : World) (h : op < 0) : Calls Tryz.prog 266 #[.int .i64 op] w fun e w' => e = .returned (.int .i64 0) ∧ w = w' := by
  have t1 : decide (op < 0) = true := by simp; omega
  clear h
  go_enter Tryz.func266, Tryz.ntmps266
  go_wp2_with fail
  go_ret
  exact ⟨rfl, rfl⟩
theorem kind_high (op : Int) (w : World) (h : 173 < op) : Calls Tryz.prog 266 #[.int .i64 op] w fun e w' => e = .returned (.int .i64 0) ∧ w = w' := by
  have t1 : decide (op < 0) = false := by simp; omega
  have t2 : decide (174 ≤ op) = true := by simp; omega
  clear h
  go_enter Tryz.func266, Tryz.ntmps266
  go_wp2_with fail
  go_ret
  exact ⟨rfl, rfl⟩
theorem kind_in (r : Nat) (k : Int) (w : World) (h : r < 174) (k0 : 0 ≤ k) (k1 : k ≤ 9) (hc : w.cell? ⟨1, r, none⟩ = some (.int .u8 k)) : Calls Tryz.prog 266 #[.int .i64 (r : Int)] w fun e w' => e = .returned (.int .i64 k) ∧ w = w' := by
  have t1 : decide ((r : Int) < 0) = false := by simp
  have t2 : decide (174 ≤ (r : Int)) = false := by simp; omega
  have t3 : IntKind.i64.wrap k = k := IntWalk.i64_in _ (by omega)
  go_enter Tryz.func266, Tryz.ntmps266
  go_wp2_with fail
  go_ret
  exact ⟨rfl, rfl⟩
theorem kind_any (op : Int) (w : World) (hT : KTab w) : Calls Tryz.prog 266 #[.int .i64 op] w fun e w' => e = .returned (.int .i64 (kd op)) ∧ w = w' := by
  by_cases h0 : op < 0
  · rw [kd_low h0]; exact kind_low op w h0
  · by_cases h1 : 173 < op
    · rw [kd_high h1]; exact kind_high op w h1
    · obtain ⟨r, rfl⟩ := Int.eq_ofNat_of_zero_le (show 0 ≤ op by omega)
      exact kind_in r _ w (by omega) (kd_range _).1 (kd_range _).2 (hT.2 r (by omega))
theorem kind_told (op : Int) (w : World) (hT : KTab w) : Calls Tryz.prog 266 #[.int .i64 op] w (KdTold op w) := (kind_any op w hT).mono fun _e _w' ⟨h1, h2⟩ => ⟨h1, h2 ▸ Below.refl _ _⟩
end Go.Proofs.YtffegkjlgeblbaaGreatDoor.Ins
end

section
/- The program's Same: whole numbers one by one, and instructions. -/
namespace Go.Proofs.YtffegkjlgeblbaaGreatDoor.Ins
open Go.RowKit Ints Typ
set_option maxRecDepth 100000
set_option maxHeartbeats 1000000
set_option linter.unusedVariables false

theorem equal_far (P Q : Option Addr) (c d n m : Nat) (w : World) (h : ((n : Int) != (m : Int)) = true) : Calls Tryz.prog 51 #[.slice P n c, .slice Q m d] w fun en w' => en = .returned (.bool false) ∧ Below w.heap.size w w' := by
  go_enter Tryz.func51, Tryz.ntmps51
  go_wp2_with fail
  exact bodyPost_ret (v := .bool false) (by simp [results, Tryz.results51, go_sem]) rfl ⟨rfl, Below.refl _ _⟩
theorem equal_loop (x y : List Int) (P Q : Option Addr) (c d : Nat) (w : World) (n : Nat) (hn1 : x.length = n) (hn2 : y.length = n) (hx : SlI w (.slice P n c) x) (hy : SlI w (.slice Q n d) y) :
    Calls Tryz.prog 51 #[.slice P n c, .slice Q n d] w fun en w' => en = .returned (.bool (decide (x = y))) ∧ Below w.heap.size w w' := by
  have N1 := Lib.hid hn1
  have N2 := Lib.hid hn2
  have HX := Lib.hid hx
  have HY := Lib.hid hy
  clear hn1 hn2 hx hy
  go_enter Tryz.func51, Tryz.ntmps51
  go_wp2_with fail
  go_loopw [13] (fun j' wr => ∃ k : Nat, j' = .int .i64 (k : Int) ∧ k ≤ n ∧ x.take k = y.take k ∧ SlI wr (.slice P n c) x ∧ SlI wr (.slice Q n d) y ∧ Below w.heap.size w wr) (fun j' _ => n - (intOf j').toNat)
  case atStart => exact ⟨0, rfl, Nat.zero_le _, rfl, HX.out, HY.out, Below.refl _ _⟩
  case round =>
    clear HX HY
    obtain ⟨k, rfl, hk, ht, hX, hY, hW⟩ := hrel
    have HX := Lib.hid hX
    have HY := Lib.hid hY
    have HW := Lib.hid hW
    have HT := Lib.hid ht
    clear hX hY hW ht
    have hbig := HX.out.len_le
    rw [N1.out] at hbig
    by_cases hlt : k < n
    · obtain ⟨g1, p1, rfl, hc1⟩ := HX.out.at_ (j := k) (by rw [N1.out]; exact hlt)
      obtain ⟨g2, p2, rfl, hc2⟩ := HY.out.at_ (j := k) (by rw [N2.out]; exact hlt)
      have hin1 : (0 : Int) ≤ (k : Int) := by omega
      have hin2 : (k : Int) < (n : Int) := by omega
      obtain ⟨u, hu⟩ : ∃ u, x.getD k 0 = u := ⟨_, rfl⟩
      obtain ⟨v, hv⟩ : ∃ v, y.getD k 0 = v := ⟨_, rfl⟩
      rw [hu] at hc1
      rw [hv] at hc2
      have HU := Lib.hid hu
      have HV := Lib.hid hv
      clear hu hv
      cases hq : (u != v) with
      | true =>
        have HQ := Lib.hid (of_take_ne (a := x) (b := y) (k := k) (by rw [HU.out, HV.out]; exact hq))
        go_wp2_with fail
        go_quiet (fail)
        go_wp2_with fail
        rw [decide_eq_false HQ.out]
        exact bodyPost_ret (v := .bool false) (by simp [results, Tryz.results51, go_sem]) rfl ⟨rfl, HW.out.trans (drewNB _ _ HW.out.size)⟩
      | false =>
        have HQ := Lib.hid (take_eq HT.out (by rw [N1.out]; exact hlt) (by rw [N2.out]; exact hlt) (by rw [HU.out, HV.out]; exact hq))
        go_wp2_with fail
        go_quiet (fail)
        go_wp2_with fail
        go_roundw
        case rel => exact ⟨k + 1, by go_num, hlt, HQ.out, HX.out.keep (drewNB _ _ (Nat.le_refl _)), HY.out.keep (drewNB _ _ (Nat.le_refl _)), HW.out.trans (drewNB _ _ HW.out.size)⟩
        case measure => simp [intOf]; omega
    · obtain rfl : k = n := by omega
      have HQ : Hid (x = y) := by
        have h1 := HT.out
        rw [List.take_of_length_le (by rw [N1.out]; exact Nat.le_refl _), List.take_of_length_le (by rw [N2.out]; exact Nat.le_refl _)] at h1
        exact h1
      go_wp2_with fail
      rw [decide_eq_true HQ.out]
      exact bodyPost_ret (v := .bool true) (by simp [results, Tryz.results51, go_sem]) rfl ⟨rfl, HW.out⟩
theorem equal_any {x y : List Int} {o p : Value} {w : World} (hx : SlI w o x) (hy : SlI w p y) : Calls Tryz.prog 51 #[o, p] w fun en w' => en = .returned (.bool (decide (x = y))) ∧ Below w.heap.size w w' := by
  obtain ⟨P, c, ho, _⟩ := id hx
  obtain ⟨Q, d, hp, _⟩ := id hy
  subst ho hp
  by_cases hn : x.length = y.length
  · rw [← hn] at hy ⊢
    exact equal_loop x y P Q c d w x.length rfl hn.symm hx hy
  · rw [decide_eq_false (fun h => hn (by rw [h]))]
    exact equal_far P Q c d _ _ w (by simp; omega)
theorem psame_core (x y : Ins) (P Q : Option Addr) (c d n m : Nat) (w : World) (b1 b2 b3 b4 b5 : Bool) (h1 : (x.op == y.op) = b1) (h2 : (x.A == y.A) = b2) (h3 : (x.B == y.B) = b3) (h4 : (x.K == y.K) = b4)
    (hE : ∀ W, Below w.heap.size w W → Calls Tryz.prog 51 #[.slice P n c, .slice Q m d] W fun en w' => en = .returned (.bool b5) ∧ Below W.heap.size W w') :
    Calls Tryz.prog 108 #[iv x (.slice P n c), iv y (.slice Q m d)] w fun en w' => en = .returned (.bool (b1 && b2 && b3 && b4 && b5)) ∧ Below w.heap.size w w' := by
  unfold iv
  have HW : Below w.heap.size w ((w.alloc (.cells #[.int .i64 x.op, .int .i64 x.A, .int .i64 x.B, .int .u64 x.K, .slice P n c] 67)).alloc (.cells #[.int .i64 y.op, .int .i64 y.A, .int .i64 y.B, .int .u64 y.K, .slice Q m d] 67)) := ((Below.refl _ _).alloc (Nat.le_refl _) _).alloc (by simp) _
  have HI := Lib.hid ((InAt.at_ w w.heap.size x.op x.A x.B x.K (.slice P n c) 67 rfl).keep ((Below.refl _ _).alloc (Nat.le_refl _) (.cells #[.int .i64 y.op, .int .i64 y.A, .int .i64 y.B, .int .u64 y.K, .slice Q m d] 67)))
  have HJ := Lib.hid (InAt.at_ (w.alloc (.cells #[.int .i64 x.op, .int .i64 x.A, .int .i64 x.B, .int .u64 x.K, .slice P n c] 67)) (w.heap.size + 1) y.op y.A y.B y.K (.slice Q m d) 67 (by simp))
  have HW' := Lib.hid HW
  have HE := Lib.hid hE
  clear HW hE
  obtain ⟨i0, ic0, ic1, ic2, ic3, ic4, if0, if1, if2, if3, if4⟩ := HI.out
  obtain ⟨o0, oc0, oc1, oc2, oc3, oc4, of0, of1, of2, of3, of4⟩ := HJ.out
  cases b1 with
  | false =>
    go_enter Tryz.func108, Tryz.ntmps108
    go_wp2_with fail
    exact bodyPost_ret (v := .bool false) (by simp [results, Tryz.results108, go_sem]) rfl ⟨rfl, HW'.out⟩
  | true =>
    cases b2 with
    | false =>
      go_enter Tryz.func108, Tryz.ntmps108
      go_wp2_with fail
      exact bodyPost_ret (v := .bool false) (by simp [results, Tryz.results108, go_sem]) rfl ⟨rfl, HW'.out⟩
    | true =>
      cases b3 with
      | false =>
        go_enter Tryz.func108, Tryz.ntmps108
        go_wp2_with fail
        exact bodyPost_ret (v := .bool false) (by simp [results, Tryz.results108, go_sem]) rfl ⟨rfl, HW'.out⟩
      | true =>
        cases b4 with
        | false =>
          go_enter Tryz.func108, Tryz.ntmps108
          go_wp2_with fail
          exact bodyPost_ret (v := .bool false) (by simp [results, Tryz.results108, go_sem]) rfl ⟨rfl, HW'.out⟩
        | true =>
          go_enter Tryz.func108, Tryz.ntmps108
          go_wp2_with fail
          refine (HE.out _ HW'.out).mono ?_
          rintro en w2 ⟨rfl, hb2⟩
          have HB2 := Lib.hid (HW'.out.trans (hb2.mono HW'.out.size))
          clear hb2
          go_wp2_with fail
          exact bodyPost_ret (v := .bool b5) (by simp [results, Tryz.results108, go_sem]) rfl ⟨by simp, HB2.out⟩
theorem psame_any {x y : Ins} {o p : Value} {w : World} (hx : SlI w o x.L) (hy : SlI w p y.L) : Calls Tryz.prog 108 #[iv x o, iv y p] w fun en w' => en = .returned (.bool (smI x y)) ∧ Below w.heap.size w w' := by
  obtain ⟨P, c, ho, _⟩ := id hx
  obtain ⟨Q, d, hp, _⟩ := id hy
  subst ho hp
  have := psame_core x y P Q c d _ _ w _ _ _ _ _ rfl rfl rfl rfl (fun W hW => equal_any (hx.keep hW) (hy.keep hW))
  have e1 : (x.op == y.op && x.A == y.A && x.B == y.B && x.K == y.K && decide (x.L = y.L)) = smI x y := by
    unfold smI
    rw [Bool.eq_iff_iff]
    simp [and_assoc]
  rw [e1] at this
  exact this
end Go.Proofs.YtffegkjlgeblbaaGreatDoor.Ins
end
