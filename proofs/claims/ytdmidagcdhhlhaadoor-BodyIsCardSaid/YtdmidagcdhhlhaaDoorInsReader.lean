/- The document's reader: bytes, a place, the first error; each of its calls turns its own three cells alone. -/
import Derived.Test.YtdmidagcdhhlhaaDoorInsAccess
import Derived.Deep.QuietTactic
import Derived.BigQuiet
namespace Go.Proofs.YtdmidagcdhhlhaaDoor.Ins
open Go.RowKit Ints Typ
set_option maxRecDepth 100000
set_option maxHeartbeats 1000000

/-- But for block g the world is as it was. -/
structure But (g : Nat) (w w' : World) : Prop where
  os : w'.os = w.os
  tape : w'.tape = w.tape
  output : w'.output = w.output
  size : w.heap.size ≤ w'.heap.size
  block : ∀ k, k < w.heap.size → k ≠ g → w'.heap[k]? = w.heap[k]?
theorem But.refl (g : Nat) (w : World) : But g w w := ⟨rfl, rfl, rfl, Nat.le_refl _, fun _ _ _ => rfl⟩
theorem But.trans {g : Nat} {a b c : World} (h : But g a b) (k : But g b c) : But g a c :=
  ⟨k.os.trans h.os, k.tape.trans h.tape, k.output.trans h.output, Nat.le_trans h.size k.size, fun i hi hn => (k.block i (Nat.lt_of_lt_of_le hi h.size) hn).trans (h.block i hi hn)⟩
theorem But.of_below {g : Nat} {w w' : World} (h : Below w.heap.size w w') : But g w w' := ⟨h.os, h.tape, h.output, h.size, fun k hk _ => h.block k hk⟩
theorem But.below {g B : Nat} {w w' : World} (h : But g w w') (hB : B ≤ g) (hg : g < w.heap.size) : Below B w w' := ⟨h.os, h.tape, h.output, h.size, fun k hk => h.block k (by omega) (by omega)⟩
theorem But.cell {g : Nat} {w w' : World} (h : But g w w') {p : Addr} (hp : p.block < w.heap.size) (hn : p.block ≠ g) : w'.cell? p = w.cell? p := World.cell?_of_block (w := w) (h.block p.block hp hn)
theorem But.frozen {g : Nat} {w w' : World} (h : But g w w') {p : Addr} (hp : p.block < w.heap.size) (hn : p.block ≠ g) : w'.frozen? p = w.frozen? p := World.frozen?_of_block (w := w) (h.block p.block hp hn)
theorem But.setCell {g : Nat} {a w : World} (h : But g a w) {p : Addr} (hp : p.block = g) (u : Value) : But g a (w.setCell p u) :=
  h.trans ⟨rfl, rfl, rfl, by simp [World.setCell], fun k _ hk => Below.heap_setCell _ _ _ _ (by omega)⟩
theorem But.drewN {g : Nat} {a w : World} (h : But g a w) (n : Nat) : But g a (w.drewN n) := ⟨h.os, h.tape, h.output, h.size, h.block⟩
/-- A reader in memory. -/
structure RdAt (w : World) (g : Nat) (v : Value) (at_ e : Int) : Prop where
  lt : g < w.heap.size
  c0 : w.cell? ⟨g, 0, none⟩ = some v
  c1 : w.cell? ⟨g, 1, none⟩ = some (.int .i64 at_)
  c2 : w.cell? ⟨g, 2, none⟩ = some (.int .i64 e)
  f0 : w.frozen? ⟨g, 0, none⟩ = false
  f1 : w.frozen? ⟨g, 1, none⟩ = false
  f2 : w.frozen? ⟨g, 2, none⟩ = false
theorem RdAt.keep {w w' : World} {g : Nat} {v : Value} {a e : Int} (h : RdAt w g v a e) (hb : Below w.heap.size w w') : RdAt w' g v a e :=
  ⟨Nat.lt_of_lt_of_le h.lt hb.size, by rw [hb.cell (p := ⟨g, 0, none⟩) h.lt]; exact h.c0, by rw [hb.cell (p := ⟨g, 1, none⟩) h.lt]; exact h.c1, by rw [hb.cell (p := ⟨g, 2, none⟩) h.lt]; exact h.c2,
    by rw [hb.frozen (p := ⟨g, 0, none⟩) h.lt]; exact h.f0, by rw [hb.frozen (p := ⟨g, 1, none⟩) h.lt]; exact h.f1, by rw [hb.frozen (p := ⟨g, 2, none⟩) h.lt]; exact h.f2⟩
/-- The next byte. -/
def rb (l : List Int) (at_ : Nat) (e : Int) : Int × Nat × Int := if e ≠ 0 then (0, at_, e) else if l.length ≤ at_ then (0, at_, 2) else (l.getD at_ 0, at_ + 1, 0)
def RdTold (g : Nat) (v : Value) (x : Int × Nat × Int) (w : World) (en : Ending) (w' : World) : Prop := en = .returned (.int .i64 x.1) ∧ RdAt w' g v (x.2.1 : Int) x.2.2 ∧ But g w w'
theorem byte_err (g : Nat) (v : Value) (at_ : Nat) (e : Int) (w : World) (hR : RdAt w g v (at_ : Int) e) (he : e ≠ 0) : Calls Tryd.prog 72 #[.pointer (some ⟨g, 0, none⟩)] w (RdTold g v (0, at_, e) w) := by
  have t1 : (e == 0) = false := by simpa using he
  have t2 : (e != 0) = true := by simpa using he
  have HR := Lib.hid hR
  obtain ⟨h0, c0, c1, c2, f0, f1, f2⟩ := hR
  clear he
  go_enter Tryd.func72, Tryd.ntmps72
  go_wp2_with fail
  go_quiet (fail)
  go_wp2_with fail
  go_ret
  exact ⟨rfl, HR.out.keep ⟨rfl, rfl, rfl, Nat.le_refl _, fun _ _ => rfl⟩, (But.refl _ _).drewN _⟩
theorem RdAt.set1 {w : World} {g : Nat} {v : Value} {a e : Int} (h : RdAt w g v a e) (x : Int) : RdAt (w.setCell ⟨g, 1, none⟩ (.int .i64 x)) g v x e := by
  obtain ⟨h0, c0, c1, c2, f0, f1, f2⟩ := h
  exact ⟨by simp [World.setCell]; exact h0, by rw [World.cell?_setCell_other (h := by simp)]; exact c0, by apply World.cell?_setCell_same; exact c1, by rw [World.cell?_setCell_other (h := by simp)]; exact c2, by rw [World.frozen?_setCell]; exact f0, by rw [World.frozen?_setCell]; exact f1, by rw [World.frozen?_setCell]; exact f2⟩
theorem RdAt.set2 {w : World} {g : Nat} {v : Value} {a e : Int} (h : RdAt w g v a e) (x : Int) : RdAt (w.setCell ⟨g, 2, none⟩ (.int .i64 x)) g v a x := by
  obtain ⟨h0, c0, c1, c2, f0, f1, f2⟩ := h
  exact ⟨by simp [World.setCell]; exact h0, by rw [World.cell?_setCell_other (h := by simp)]; exact c0, by rw [World.cell?_setCell_other (h := by simp)]; exact c1, by apply World.cell?_setCell_same; exact c2, by rw [World.frozen?_setCell]; exact f0, by rw [World.frozen?_setCell]; exact f1, by rw [World.frozen?_setCell]; exact f2⟩
theorem RdAt.drewN {w : World} {g : Nat} {v : Value} {a e : Int} (h : RdAt w g v a e) (n : Nat) : RdAt (w.drewN n) g v a e := h.keep ⟨rfl, rfl, rfl, Nat.le_refl _, fun _ _ => rfl⟩
theorem byte_end (g : Nat) (A : Option Addr) (n c at_ : Nat) (w : World) (hR : RdAt w g (.slice A n c) (at_ : Int) 0) (h : n ≤ at_) : Calls Tryd.prog 72 #[.pointer (some ⟨g, 0, none⟩)] w (RdTold g (.slice A n c) (0, at_, 2) w) := by
  have t1 : decide ((n : Int) ≤ (at_ : Int)) = true := by simp; omega
  have t0 : decide (n ≤ at_) = true := by simp; omega
  have HR := Lib.hid hR
  obtain ⟨h0, c0, c1, c2, f0, f1, f2⟩ := hR
  clear h
  go_enter Tryd.func72, Tryd.ntmps72
  go_wp2_with fail
  go_quiet (fail)
  go_wp2_with fail
  go_ret
  exact ⟨rfl, (HR.out.drewN _).set2 2, ((But.refl _ _).drewN _).setCell (p := ⟨g, 2, none⟩) rfl _⟩
theorem byte_in (g b off n c at_ : Nat) (x : Int) (w : World) (hR : RdAt w g (.slice (some ⟨b, off, none⟩) n c) (at_ : Int) 0) (h : at_ < n) (hn : n ≤ 1000000) (hne : b ≠ g) (x0 : 0 ≤ x) (x1 : x < 256) (hx : w.cell? ⟨b, off + at_, none⟩ = some (.int .u8 x)) : Calls Tryd.prog 72 #[.pointer (some ⟨g, 0, none⟩)] w (RdTold g (.slice (some ⟨b, off, none⟩) n c) (x, at_ + 1, 0) w) := by
  have t1 : decide ((n : Int) ≤ (at_ : Int)) = false := by simp; omega
  have t0 : decide (n ≤ at_) = false := by simp; omega
  have t2 : IntKind.i64.wrap ((at_ : Int) + 1) = (at_ : Int) + 1 := IntWalk.i64_in _ (by omega)
  have t3 : IntKind.i64.wrap ((at_ : Int) + 1 - 1) = (at_ : Int) := by rw [IntKind.wrap_i64]; omega
  have HR := Lib.hid hR
  obtain ⟨h0, c0, c1, c2, f0, f1, f2⟩ := hR
  go_enter Tryd.func72, Tryd.ntmps72
  go_wp2_with fail
  go_quiet (fail)
  go_wp2_with fail
  go_quiet (fail)
  go_wp2_with fail
  go_ret
  refine ⟨rfl, ?_, (((But.refl _ _).drewN _).setCell (p := ⟨g, 1, none⟩) rfl _).drewN _⟩
  rw [show (((x, at_ + 1, (0 : Int)) : Int × Nat × Int).2.1 : Int) = (at_ : Int) + 1 from by simp]
  exact ((HR.out.drewN _).set1 _).drewN _
/-- A reader of bytes that were there ahead of it. -/
structure Rd (w0 : World) (v : Value) (l : List Int) (g : Nat) (w : World) (at_ : Nat) (e : Int) : Prop where
  sl : Sl w0 v l
  by_ : ∀ x ∈ l, 0 ≤ x ∧ x < 256
  len : l.length ≤ 1000000
  at_le : at_ ≤ l.length
  base : w0.heap.size ≤ g
  below : Below w0.heap.size w0 w
  rd : RdAt w g v (at_ : Int) e
/-- How a reader's call ends: what it tells, the place, the error. -/
def Turn (v : Value) (g : Nat) (x : Value) (at_ : Nat) (e : Int) (w : World) (en : Ending) (w' : World) : Prop := en = .returned x ∧ RdAt w' g v (at_ : Int) e ∧ But g w w'
theorem Rd.turn {w0 w w' : World} {v : Value} {l : List Int} {g a a' : Nat} {e e' : Int} (h : Rd w0 v l g w a e) (hr : RdAt w' g v (a' : Int) e') (hb : But g w w') (ha : a' ≤ l.length) : Rd w0 v l g w' a' e' :=
  ⟨h.sl, h.by_, h.len, ha, h.base, h.below.trans (hb.below h.base h.rd.lt), hr⟩
theorem Rd.keep {w0 w w' : World} {v : Value} {l : List Int} {g a : Nat} {e : Int} (h : Rd w0 v l g w a e) (hb : Below w.heap.size w w') : Rd w0 v l g w' a e :=
  ⟨h.sl, h.by_, h.len, h.at_le, h.base, h.below.trans (hb.mono h.below.size), h.rd.keep hb⟩
theorem rb_err {l : List Int} {a : Nat} {e : Int} (h : e ≠ 0) : rb l a e = (0, a, e) := if_pos h
theorem rb_end {l : List Int} {a : Nat} (h : l.length ≤ a) : rb l a 0 = (0, a, 2) := (if_neg (by simp)).trans (if_pos h)
theorem rb_in {l : List Int} {a : Nat} (h : a < l.length) : rb l a 0 = (l.getD a 0, a + 1, 0) := (if_neg (by simp)).trans (if_neg (by omega))
theorem rb_le {l : List Int} {a : Nat} {e : Int} (h : a ≤ l.length) : (rb l a e).2.1 ≤ l.length := by
  unfold rb
  split
  · exact h
  · split
    · exact h
    · show a + 1 ≤ l.length
      omega
theorem byte_any {w0 w : World} {v : Value} {l : List Int} {g a : Nat} {e : Int} (h : Rd w0 v l g w a e) :
    Calls Tryd.prog 72 #[.pointer (some ⟨g, 0, none⟩)] w (Turn v g (.int .i64 (rb l a e).1) (rb l a e).2.1 (rb l a e).2.2 w) := by
  by_cases he : e = 0
  · subst he
    obtain ⟨A, c, hv, h2, h3, h4⟩ := id h.sl
    by_cases hin : a < l.length
    · rw [rb_in hin]
      obtain ⟨b, off, rfl, hB⟩ := h4 (fun e => by rw [e] at hin; simp at hin)
      have hB2 := (hB.keep h.below)
      have hx := hB2.2.2 a hin
      have hm := h.by_ (l.getD a 0) (by rw [List.getD_eq_getElem?_getD, List.getElem?_eq_getElem hin]; simp)
      subst hv
      exact byte_in g b off _ c a _ w h.rd hin h.len (by have := hB.1; have := h.base; simp at *; omega) hm.1 hm.2 hx
    · rw [rb_end (by omega)]
      subst hv
      exact byte_end g A _ c a w h.rd (by omega)
  · rw [rb_err he]
    exact byte_err g v a e w h.rd he
/-- An error, if something is so, and there is none yet. -/
def rf (is : Bool) (e err : Int) : Int := bif is then (if e = 0 then err else e) else e
theorem fail_any {w0 w : World} {v : Value} {l : List Int} {g a : Nat} {e : Int} (is : Bool) (err : Int) (h : Rd w0 v l g w a e) :
    Calls Tryd.prog 73 #[.pointer (some ⟨g, 0, none⟩), .bool is, .int .i64 err] w (Turn v g (.tuple #[]) a (rf is e err) w) := by
  have HR := Lib.hid h.rd
  obtain ⟨h0, c0, c1, c2, f0, f1, f2⟩ := h.rd
  clear h
  cases is with
  | false =>
    rw [show rf false e err = e from rfl]
    go_enter Tryd.func73, Tryd.ntmps73
    go_wp2_with fail
    exact bodyPost_ret (v := .tuple #[]) (by simp [results, Tryd.results73, go_sem]) rfl ⟨rfl, HR.out, But.refl _ _⟩
  | true =>
    by_cases he : e = 0
    · subst he
      rw [show rf true 0 err = err from rfl]
      go_enter Tryd.func73, Tryd.ntmps73
      go_wp2_with fail
      exact bodyPost_ret (v := .tuple #[]) (by simp [results, Tryd.results73, go_sem]) rfl ⟨rfl, HR.out.set2 _, (But.refl _ _).setCell (p := ⟨g, 2, none⟩) rfl _⟩
    · have t1 : (e == 0) = false := by simpa using he
      rw [show rf true e err = e from if_neg he]
      clear he
      go_enter Tryd.func73, Tryd.ntmps73
      go_wp2_with fail
      exact bodyPost_ret (v := .tuple #[]) (by simp [results, Tryd.results73, go_sem]) rfl ⟨rfl, HR.out, But.refl _ _⟩
end Go.Proofs.YtdmidagcdhhlhaaDoor.Ins
