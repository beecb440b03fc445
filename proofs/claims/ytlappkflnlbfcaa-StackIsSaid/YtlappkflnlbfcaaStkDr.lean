/- A stack that is changed, in memory: a block of three cells, two rows of the call's own. -/
import Derived.Test.YtlappkflnlbfcaaStkSmall
namespace Go.Proofs.Ytlappkflnlbfcaa.Stk
open Go.RowKit Row9
set_option maxRecDepth 100000
set_option maxHeartbeats 2000000
set_option linter.unusedVariables false
/-- But for block g the world is as it was. -/
structure But (g : Nat) (w w' : World) : Prop where
  os : w'.os = w.os
  tape : w'.tape = w.tape
  output : w'.output = w.output
  size : w.heap.size ≤ w'.heap.size
  block : ∀ k, k < w.heap.size → k ≠ g → w'.heap[k]? = w.heap[k]?
theorem But.refl (g : Nat) (w : World) : But g w w := ⟨rfl, rfl, rfl, Nat.le_refl _, fun _ _ _ => rfl⟩
theorem But.trans {g : Nat} {a b c : World} (h : But g a b) (k : But g b c) : But g a c :=
  ⟨k.os.trans h.os, k.tape.trans h.tape, k.output.trans h.output, Nat.le_trans h.size k.size, fun i hi hn => (k.block i (Nat.lt_of_lt_of_le hi h.size) hn).trans (h.block i hi hn)⟩
theorem But.of_below {g : Nat} {w w' : World} (h : Below w.heap.size w w') : But g w w' := ⟨h.os, h.tape, h.output, h.size, fun k hk _ => h.block k hk⟩
theorem But.below {g B : Nat} {w w' : World} (h : But g w w') (hB : B ≤ g) (hg : g < w.heap.size) : Below B w w' := ⟨h.os, h.tape, h.output, h.size, fun k hk => h.block k (by omega) (by omega)⟩
theorem But.setCell {g : Nat} {a w : World} (h : But g a w) (i : Nat) (u : Value) : But g a (w.setCell ⟨g, i, none⟩ u) :=
  h.trans ⟨rfl, rfl, rfl, by simp [World.setCell], fun k _ hk => Below.heap_setCell _ _ _ _ hk⟩
theorem But.drewN {g : Nat} {a w : World} (h : But g a w) (n : Nat) : But g a (w.drewN n) := ⟨h.os, h.tape, h.output, h.size, h.block⟩
/-- All below B is as it was, but block b. -/
structure BB (B b : Nat) (w w' : World) : Prop where
  os : w'.os = w.os
  tape : w'.tape = w.tape
  output : w'.output = w.output
  size : w.heap.size ≤ w'.heap.size
  block : ∀ k, k < B → k ≠ b → w'.heap[k]? = w.heap[k]?
theorem BB.of_below {B b : Nat} {w w' : World} (h : Below B w w') : BB B b w w' := ⟨h.os, h.tape, h.output, h.size, fun k hk _ => h.block k hk⟩
theorem BB.trans {B b : Nat} {a c d : World} (h : BB B b a c) (k : BB B b c d) : BB B b a d :=
  ⟨k.os.trans h.os, k.tape.trans h.tape, k.output.trans h.output, Nat.le_trans h.size k.size, fun i hi hn => (k.block i hi hn).trans (h.block i hi hn)⟩
theorem BB.below {B b : Nat} {w w' : World} (h : BB B b w w') (hb : B ≤ b) : Below B w w' := ⟨h.os, h.tape, h.output, h.size, fun k hk => h.block k hk (by omega)⟩
/-- An end, of the call's own, and no part of the values' row. -/
def EndOk (w : World) (B : Nat) (vv : Value) (p : CtV) : Prop := Own elB w B p.2 p.1.fin ∧ (∀ k, p.2.ownBlock = some k → some k ≠ vv.ownBlock) ∧ (∀ x ∈ p.1.fin, 0 ≤ x ∧ x < 256) ∧ w64 p.1.op ∧ w64 p.1.ht ∧ 0 ≤ p.1.ht
/-- The pointer to what is open innermost. -/
def innP (cv : Value) : Value := match cv with
  | .slice (some ⟨g, off, _⟩) n _ => if n = 0 then .pointer none else .pointer (some ⟨g, off + (n - 1) * 4, none⟩)
  | _ => .pointer none
theorem innP_zero (A : Option Addr) (c : Nat) : innP (.slice A 0 c) = .pointer none := by
  cases A with
  | none => rfl
  | some a => obtain ⟨g, o, s⟩ := a; rfl
theorem innP_pos (g n c m : Nat) (h : n = m + 1) : innP (.slice (some ⟨g, 0, none⟩) n c) = .pointer (some ⟨g, m * 4, none⟩) := by
  subst h
  show (if m + 1 = 0 then Value.pointer none else Value.pointer (some ⟨g, 0 + (m + 1 - 1) * 4, none⟩)) = _
  rw [Nat.zero_add, Nat.add_sub_cancel]
  exact if_neg (Nat.succ_ne_zero m)
def drCells (vv cv pv : Value) : Obj := .cells #[vv, cv, pv] 79 (0, 0)
structure Dr (w : World) (B D : Nat) (vv cv : Value) (vals : List Int) (l : List CtV) : Prop where
  hD : B ≤ D
  blk : w.heap[D]? = some (drCells vv cv (innP cv))
  vO : Own elB w B vv vals
  vR : ∀ x ∈ vals, 0 ≤ x ∧ x < 256
  cO : Own elP w B cv l
  ok : ∀ p ∈ l, EndOk w B vv p
theorem Dr.lt {w : World} {B D : Nat} {vv cv : Value} {vals : List Int} {l : List CtV} (h : Dr w B D vv cv vals l) : D < w.heap.size := lt_of_heap h.blk
theorem EndOk.keep {w w' : World} {B : Nat} {vv : Value} {p : CtV} (h : EndOk w B vv p) (hb : Below w.heap.size w w') : EndOk w' B vv p := ⟨own_keep h.1 hb, h.2⟩
theorem Dr.keep {w w' : World} {B D : Nat} {vv cv : Value} {vals : List Int} {l : List CtV} (h : Dr w B D vv cv vals l) (hb : Below w.heap.size w w') : Dr w' B D vv cv vals l :=
  ⟨h.hD, (hb.block D h.lt).trans h.blk, own_keep h.vO hb, h.vR, own_keep h.cO hb, fun p hp => (h.ok p hp).keep hb⟩
/-- A row does not lie in the draft's block. -/
theorem own_notD {w : World} {B D e s n : Nat} {v vv cv pv : Value} {xs : List Value} (h : w.ownsRow B e s v n xs) (hd : w.heap[D]? = some (drCells vv cv pv)) (hne : e ≠ 79) {k : Nat} (hk : v.ownBlock = some k) : k ≠ D := by
  intro e1
  subst e1
  obtain ⟨cur, h1⟩ := own_type h hk
  rw [hd] at h1
  simp only [drCells, Option.some.injEq, Obj.cells.injEq] at h1
  exact hne h1.2.1.symm
theorem own_setD {w : World} {B D e s n : Nat} {v vv cv pv : Value} {xs : List Value} (h : w.ownsRow B e s v n xs) (hd : w.heap[D]? = some (drCells vv cv pv)) (hne : e ≠ 79) (i : Nat) (u : Value) : (w.setCell ⟨D, i, none⟩ u).ownsRow B e s v n xs :=
  own_stay h fun k hk => chg_set w D i u k (World.ownsRow.lt h k hk).2 (by intro e1; exact own_notD h hd hne hk (Option.some.inj e1))
/-- The draft's values, told anew. -/
theorem Dr.setV {w : World} {B D : Nat} {vv cv vv' : Value} {vals vals' : List Int} {l : List CtV} (h : Dr w B D vv cv vals l) (hO : Own elB w B vv' vals') (hR : ∀ x ∈ vals', 0 ≤ x ∧ x < 256) (hv : vv'.ownBlock = vv.ownBlock) : Dr (w.setCell ⟨D, 0, none⟩ vv') B D vv' cv vals' l :=
  ⟨h.hD, by rw [drCells, set_heap h.blk]; rfl, own_setD hO h.blk (by decide) _ _, hR, own_setD h.cO h.blk (by decide) _ _, fun p hp => ⟨own_setD (h.ok p hp).1 h.blk (by decide) _ _, by rw [hv]; exact (h.ok p hp).2.1, (h.ok p hp).2.2⟩⟩
/-- The draft's cells. -/
theorem dr_cells {w : World} {D : Nat} {vv cv pv : Value} (h : w.heap[D]? = some (drCells vv cv pv)) : w.cell? ⟨D, 0, none⟩ = some vv ∧ w.cell? ⟨D, 1, none⟩ = some cv ∧ w.cell? ⟨D, 2, none⟩ = some pv ∧ w.frozen? ⟨D, 0, none⟩ = false ∧ w.frozen? ⟨D, 1, none⟩ = false ∧ w.frozen? ⟨D, 2, none⟩ = false :=
  ⟨(cells_at h 0).1, (cells_at h 1).1, (cells_at h 2).1, (cells_at h 0).2, (cells_at h 1).2, (cells_at h 2).2⟩
/-- A row's own address. -/
theorem own_pos {α : Type} {T : El α} {w : World} {B : Nat} {v : Value} {l : List α} (h : Own T w B v l) (h0 : l ≠ []) : ∃ g c, v = .slice (some ⟨g, 0, none⟩) l.length c ∧ l.length ≤ c ∧ g < w.heap.size := by
  obtain ⟨_, ⟨hv, hl⟩ | ⟨g, cap, cur, hv, hB, hc, hle, _⟩⟩ := h
  · exact absurd (List.length_eq_zero_iff.1 hl) h0
  · exact ⟨g, cap, hv, hle, lt_of_heap hc⟩
theorem own_frozen {α : Type} {T : El α} {w : World} {B g n c : Nat} {l : List α} (h : Own T w B (.slice (some ⟨g, 0, none⟩) n c) l) (i : Nat) : w.frozen? ⟨g, i, none⟩ = false := by
  obtain ⟨cur, hc⟩ := own_type h (k := g) rfl
  exact (cells_at hc i).2
theorem Dr.rowP {w : World} {B D : Nat} {vv cv : Value} {vals : List Int} {l : List CtV} (h : Dr w B D vv cv vals l) : Row elP w cv l := h.cO.row fun p hp => ⟨(h.ok p hp).1.row (h.ok p hp).2.2.1, (h.ok p hp).2.2.2.1, (h.ok p hp).2.2.2.2.1⟩
theorem Dr.rowB {w : World} {B D : Nat} {vv cv : Value} {vals : List Int} {l : List CtV} (h : Dr w B D vv cv vals l) : Row elB w vv vals := h.vO.row h.vR
/-- What is open innermost. -/
theorem Dr.inner {w : World} {B D : Nat} {vv cv : Value} {vals : List Int} {l : List CtV} (h : Dr w B D vv cv vals l) {p : CtV} (hp : l.getLast? = some p) :
    ∃ g c q m, cv = .slice (some ⟨g, 0, none⟩) l.length c ∧ l.length ≤ c ∧ l.length = m + 1 ∧ l[m]? = some p ∧ q = m * 4 ∧ innP cv = .pointer (some ⟨g, q, none⟩) ∧ g < w.heap.size ∧ g ≠ D ∧
      w.cell? ⟨g, q, none⟩ = some (.int .i64 p.1.op) ∧ w.cell? ⟨g, q + 1, none⟩ = some p.2 ∧ w.cell? ⟨g, q + 2, none⟩ = some (.int .i64 p.1.ht) ∧ w.cell? ⟨g, q + 3, none⟩ = some (.bool p.1.dead) ∧ (∀ i, w.frozen? ⟨g, i, none⟩ = false) ∧ EndOk w B vv p := by
  have h0 : l ≠ [] := fun e => by rw [e] at hp; cases hp
  obtain ⟨g, c, rfl, hc, hg⟩ := own_pos h.cO h0
  have hl : 0 < l.length := List.length_pos_iff.2 h0
  have hm : l[l.length - 1]? = some p := by rw [← List.getLast?_eq_getElem?]; exact hp
  obtain ⟨g', off, e, hg', hC, hO⟩ := h.rowP.at_ hm
  simp only [Option.some.injEq, Addr.mk.injEq, and_true] at e
  obtain ⟨rfl, rfl⟩ := e
  have hC' : ∀ i u, (cc p)[i]? = some u → w.cell? ⟨g, (l.length - 1) * 4 + i, none⟩ = some u := fun i u hu => by
    have := hC i u hu
    rw [Nat.zero_add] at this
    exact this
  refine ⟨g, c, (l.length - 1) * 4, l.length - 1, rfl, hc, by omega, hm, rfl, innP_pos _ _ _ _ (by omega), hg, fun e => own_notD h.cO h.blk (by decide) (k := g) rfl e, hC' 0 _ rfl, hC' 1 _ rfl, hC' 2 _ rfl, hC' 3 _ rfl, fun i => own_frozen h.cO i, h.ok p (List.mem_of_getElem? hm)⟩
theorem Dr.outer {w : World} {B D : Nat} {vv cv : Value} {vals : List Int} {l : List CtV} (h : Dr w B D vv cv vals l) (hp : l = []) : innP cv = .pointer none := by
  obtain ⟨P, c, hv⟩ := h.cO.form
  subst hp hv
  exact innP_zero _ _
/-- settle: it finds what is open innermost. -/
theorem settle_any {D : Nat} {vv pv : Value} {A : Option Addr} {n c : Nat} {w : World} (hd : w.heap[D]? = some (drCells vv (.slice A n c) pv)) (hA : 0 < n → ∃ g, A = some ⟨g, 0, none⟩) (hc : n ≤ c) (hn : n ≤ 1000000) :
    Calls Try.prog 47 #[.pointer (some ⟨D, 0, none⟩)] w fun e w' => e = .returned (.tuple #[]) ∧ w'.heap[D]? = some (drCells vv (.slice A n c) (innP (.slice A n c))) ∧ But D w w' := by
  obtain ⟨c0, c1, c2, f0, f1, f2⟩ := dr_cells hd
  have HD := Lib.hid hd
  rcases Nat.eq_zero_or_pos n with h0 | h0
  · subst h0
    have e1 := innP_zero A c
    rw [e1]
    clear hd hA e1
    go_enter Try.func47, Try.ntmps47
    go_wp2_with fail
    exact bodyPost_end (v := .tuple #[]) (by simp [results, Try.results47, go_sem]) rfl ⟨rfl, by rw [drCells, set_heap HD.out]; rfl, (But.refl _ _).setCell 2 _⟩
  · obtain ⟨g, rfl⟩ := hA h0
    obtain ⟨m, hm⟩ : ∃ m, n = m + 1 := ⟨n - 1, by omega⟩
    have e1 := innP_pos g n c m hm
    rw [e1]
    have t1 : decide ((0 : Int) < (n : Int)) = true := decide_eq_true (by omega)
    have t1' : decide (0 < n) = true := decide_eq_true h0
    have e2 : IntKind.i64.wrap ((n : Int) - 1) = (m : Int) := by rw [IntWalk.i64_in _ (by omega)]; omega
    have i1 : (0 : Int) ≤ (m : Int) := by omega
    have i2 : (m : Int) < (n : Int) := by omega
    clear hd hA e1 hm
    go_enter Try.func47, Try.ntmps47
    go_wp2_with fail
    exact bodyPost_end (v := .tuple #[]) (by simp [results, Try.results47, go_sem]) rfl ⟨rfl, by rw [drCells, set_heap (set_heap HD.out _)]; rfl, ((But.refl _ _).setCell 2 _).setCell 2 _⟩
end Go.Proofs.Ytlappkflnlbfcaa.Stk
