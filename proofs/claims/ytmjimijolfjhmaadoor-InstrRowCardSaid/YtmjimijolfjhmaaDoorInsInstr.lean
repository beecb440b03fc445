/- The document's reader: the next instruction, kind by kind. -/
import Derived.Test.YtmjimijolfjhmaaDoorInsNum
import Derived.Deep.RegionHeld
namespace Go.Proofs.YtmjimijolfjhmaaDoor.Ins
open Go.RowKit Ints Typ
set_option maxRecDepth 100000
set_option maxHeartbeats 2000000

theorem But.trans' {g : Nat} {a w w' : World} (h : But g a w) (hs : w.heap.size ≤ w'.heap.size) (hk : ∀ k, k < a.heap.size → w'.heap[k]? = w.heap[k]?) (h1 : w'.os = w.os := by rfl) (h2 : w'.tape = w.tape := by rfl) (h3 : w'.output = w.output := by rfl) : But g a w' :=
  ⟨h1.trans h.os, h2.trans h.tape, h3.trans h.output, Nat.le_trans h.size hs, fun k hk1 hn => (hk k hk1).trans (h.block k hk1 hn)⟩
theorem But.setHigh {g : Nat} {a w : World} (h : But g a w) {p : Addr} (hp : a.heap.size ≤ p.block) (u : Value) : But g a (w.setCell p u) :=
  h.trans' (by simp [World.setCell]) (fun k hk => Below.heap_setCell _ _ _ _ (by omega))
theorem But.allocHigh {g : Nat} {a w : World} (h : But g a w) (o : Obj) : But g a (w.alloc o) := h.trans (But.of_below ((Below.refl _ _).alloc (Nat.le_refl _) _))
theorem RdAt.far {w : World} {g : Nat} {v : Value} {a e : Int} (h : RdAt w g v a e) {p : Addr} (hp : p.block ≠ g) (u : Value) : RdAt (w.setCell p u) g v a e := by
  obtain ⟨h0, c0, c1, c2, f0, f1, f2⟩ := h
  have key : ∀ i x, w.cell? ⟨g, i, none⟩ = some x → (w.setCell p u).cell? ⟨g, i, none⟩ = some x := fun i x hx => by rw [World.cell?_setCell_far w p ⟨g, i, none⟩ u hp]; exact hx
  exact ⟨by simp [World.setCell]; exact h0, key 0 _ c0, key 1 _ c1, key 2 _ c2, by rw [World.frozen?_setCell]; exact f0, by rw [World.frozen?_setCell]; exact f1, by rw [World.frozen?_setCell]; exact f2⟩
/-- An instruction in memory. -/
structure InAt (w : World) (h : Nat) (op A B K : Int) (o : Value) : Prop where
  lt : h < w.heap.size
  c0 : w.cell? ⟨h, 0, none⟩ = some (.int .i64 op)
  c1 : w.cell? ⟨h, 1, none⟩ = some (.int .i64 A)
  c2 : w.cell? ⟨h, 2, none⟩ = some (.int .i64 B)
  c3 : w.cell? ⟨h, 3, none⟩ = some (.int .u64 K)
  c4 : w.cell? ⟨h, 4, none⟩ = some o
  f0 : w.frozen? ⟨h, 0, none⟩ = false
  f1 : w.frozen? ⟨h, 1, none⟩ = false
  f2 : w.frozen? ⟨h, 2, none⟩ = false
  f3 : w.frozen? ⟨h, 3, none⟩ = false
  f4 : w.frozen? ⟨h, 4, none⟩ = false
theorem InAt.but {w w' : World} {g h : Nat} {op A B K : Int} {o : Value} (x : InAt w h op A B K o) (hb : But g w w') (hn : h ≠ g) : InAt w' h op A B K o := by
  obtain ⟨h0, c0, c1, c2, c3, c4, f0, f1, f2, f3, f4⟩ := x
  have key : ∀ i, w'.cell? ⟨h, i, none⟩ = w.cell? ⟨h, i, none⟩ := fun i => hb.cell (p := ⟨h, i, none⟩) h0 hn
  have fey : ∀ i, w'.frozen? ⟨h, i, none⟩ = w.frozen? ⟨h, i, none⟩ := fun i => hb.frozen (p := ⟨h, i, none⟩) h0 hn
  exact ⟨Nat.lt_of_lt_of_le h0 hb.size, by rw [key]; exact c0, by rw [key]; exact c1, by rw [key]; exact c2, by rw [key]; exact c3, by rw [key]; exact c4, by rw [fey]; exact f0, by rw [fey]; exact f1, by rw [fey]; exact f2, by rw [fey]; exact f3, by rw [fey]; exact f4⟩
theorem InAt.keep {w w' : World} {h : Nat} {op A B K : Int} {o : Value} (x : InAt w h op A B K o) (hb : Below w.heap.size w w') : InAt w' h op A B K o := x.but (But.of_below (g := h + 1) hb) (by omega)
theorem InAt.far {w : World} {h : Nat} {op A B K : Int} {o : Value} (x : InAt w h op A B K o) {p : Addr} (hp : p.block ≠ h) (u : Value) : InAt (w.setCell p u) h op A B K o := by
  obtain ⟨h0, c0, c1, c2, c3, c4, f0, f1, f2, f3, f4⟩ := x
  have key : ∀ i x, w.cell? ⟨h, i, none⟩ = some x → (w.setCell p u).cell? ⟨h, i, none⟩ = some x := fun i x hx => by rw [World.cell?_setCell_far w p ⟨h, i, none⟩ u hp]; exact hx
  exact ⟨by simp [World.setCell]; exact h0, key 0 _ c0, key 1 _ c1, key 2 _ c2, key 3 _ c3, key 4 _ c4, by rw [World.frozen?_setCell]; exact f0, by rw [World.frozen?_setCell]; exact f1, by rw [World.frozen?_setCell]; exact f2, by rw [World.frozen?_setCell]; exact f3, by rw [World.frozen?_setCell]; exact f4⟩
theorem InAt.at_ (w : World) (h : Nat) (op A B K : Int) (o : Value) (t : TypeId) (hh : h = w.heap.size) : InAt (w.alloc (.cells #[.int .i64 op, .int .i64 A, .int .i64 B, .int .u64 K, o] t)) h op A B K o := by
  subst hh
  exact ⟨by simp, by simp, by simp, by simp, by simp, by simp, by simp, by simp, by simp, by simp, by simp⟩
theorem InAt.setA {w : World} {h : Nat} {op A B K : Int} {o : Value} (y : InAt w h op A B K o) (x : Int) : InAt (w.setCell ⟨h, 1, none⟩ (.int .i64 x)) h op x B K o := by
  obtain ⟨h0, c0, c1, c2, c3, c4, f0, f1, f2, f3, f4⟩ := y
  exact ⟨by simp [World.setCell]; exact h0, by rw [World.cell?_setCell_other (h := by simp)]; exact c0, by apply World.cell?_setCell_same; exact c1, by rw [World.cell?_setCell_other (h := by simp)]; exact c2, by rw [World.cell?_setCell_other (h := by simp)]; exact c3, by rw [World.cell?_setCell_other (h := by simp)]; exact c4, by rw [World.frozen?_setCell]; exact f0, by rw [World.frozen?_setCell]; exact f1, by rw [World.frozen?_setCell]; exact f2, by rw [World.frozen?_setCell]; exact f3, by rw [World.frozen?_setCell]; exact f4⟩
theorem InAt.setB {w : World} {h : Nat} {op A B K : Int} {o : Value} (y : InAt w h op A B K o) (x : Int) : InAt (w.setCell ⟨h, 2, none⟩ (.int .i64 x)) h op A x K o := by
  obtain ⟨h0, c0, c1, c2, c3, c4, f0, f1, f2, f3, f4⟩ := y
  exact ⟨by simp [World.setCell]; exact h0, by rw [World.cell?_setCell_other (h := by simp)]; exact c0, by rw [World.cell?_setCell_other (h := by simp)]; exact c1, by apply World.cell?_setCell_same; exact c2, by rw [World.cell?_setCell_other (h := by simp)]; exact c3, by rw [World.cell?_setCell_other (h := by simp)]; exact c4, by rw [World.frozen?_setCell]; exact f0, by rw [World.frozen?_setCell]; exact f1, by rw [World.frozen?_setCell]; exact f2, by rw [World.frozen?_setCell]; exact f3, by rw [World.frozen?_setCell]; exact f4⟩
theorem InAt.setK {w : World} {h : Nat} {op A B K : Int} {o : Value} (y : InAt w h op A B K o) (x : Int) : InAt (w.setCell ⟨h, 3, none⟩ (.int .u64 x)) h op A B x o := by
  obtain ⟨h0, c0, c1, c2, c3, c4, f0, f1, f2, f3, f4⟩ := y
  exact ⟨by simp [World.setCell]; exact h0, by rw [World.cell?_setCell_other (h := by simp)]; exact c0, by rw [World.cell?_setCell_other (h := by simp)]; exact c1, by rw [World.cell?_setCell_other (h := by simp)]; exact c2, by apply World.cell?_setCell_same; exact c3, by rw [World.cell?_setCell_other (h := by simp)]; exact c4, by rw [World.frozen?_setCell]; exact f0, by rw [World.frozen?_setCell]; exact f1, by rw [World.frozen?_setCell]; exact f2, by rw [World.frozen?_setCell]; exact f3, by rw [World.frozen?_setCell]; exact f4⟩
theorem InAt.setL {w : World} {h : Nat} {op A B K : Int} {o : Value} (y : InAt w h op A B K o) (x : Value) : InAt (w.setCell ⟨h, 4, none⟩ (x)) h op A B K x := by
  obtain ⟨h0, c0, c1, c2, c3, c4, f0, f1, f2, f3, f4⟩ := y
  exact ⟨by simp [World.setCell]; exact h0, by rw [World.cell?_setCell_other (h := by simp)]; exact c0, by rw [World.cell?_setCell_other (h := by simp)]; exact c1, by rw [World.cell?_setCell_other (h := by simp)]; exact c2, by rw [World.cell?_setCell_other (h := by simp)]; exact c3, by apply World.cell?_setCell_same; exact c4, by rw [World.frozen?_setCell]; exact f0, by rw [World.frozen?_setCell]; exact f1, by rw [World.frozen?_setCell]; exact f2, by rw [World.frozen?_setCell]; exact f3, by rw [World.frozen?_setCell]; exact f4⟩
/-- Whole numbers of the call's own (nil, if there are none yet). -/
def vi (l : List Int) : List Value := l.map (Value.int .i64)
def OwnI (w : World) (B : Nat) (v : Value) (l : List Int) : Prop := w.ownsRow B 3 1 v l.length (vi l)
theorem ownI_nil (w : World) (B : Nat) : OwnI w B (.slice none 0 0) [] := ⟨rfl, .inl ⟨rfl, rfl⟩⟩
/-- An instruction, told; the place; the error. -/
def InTold (v : Value) (g : Nat) (op A B K : Int) (L : List Int) (a : Nat) (e : Int) (w : World) (en : Ending) (w' : World) : Prop :=
  ∃ o, en = .returned (.agg #[.int .i64 op, .int .i64 A, .int .i64 B, .int .u64 K, o]) ∧ OwnI w' w.heap.size o L ∧ RdAt w' g v (a : Int) e ∧ But g w w'
theorem Rd.far {w0 w : World} {v : Value} {l : List Int} {g a : Nat} {e : Int} (h : Rd w0 v l g w a e) {p : Addr} (hp : p.block ≠ g) (hq : w0.heap.size ≤ p.block) (u : Value) : Rd w0 v l g (w.setCell p u) a e :=
  ⟨h.sl, h.by_, h.len, h.at_le, h.base, h.below.setCell hq u, h.rd.far hp u⟩
theorem fail_no {w0 w : World} {v : Value} {l : List Int} {g a : Nat} {e : Int} (err : Int) (h : Rd w0 v l g w a e) : Calls Tryd.prog 49 #[.pointer (some ⟨g, 0, none⟩), .bool false, .int .i64 err] w (Turn v g (.tuple #[]) a e w) := fail_any false err h
end Go.Proofs.YtmjimijolfjhmaaDoor.Ins
