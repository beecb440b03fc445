/- Several parts in one text. -/
import Derived.Test.YtdmidagcdhhlhaaDoorInsNum
import Derived.Deep.RegionHeld
import Derived.Deep.RegionLaw
/- The document's reader: the next instruction, kind by kind. -/
namespace Go.Proofs.YtdmidagcdhhlhaaDoor.Ins
open Go.RowKit Ints Typ
set_option maxRecDepth 100000
set_option maxHeartbeats 2000000

theorem But.trans' {g : Nat} {a w w' : World} (h : But g a w) (hs : w.heap.size ≤ w'.heap.size) (hk : ∀ k, k < a.heap.size → w'.heap[k]? = w.heap[k]?) (h1 : w'.os = w.os := by rfl) (h2 : w'.tape = w.tape := by rfl) (h3 : w'.output = w.output := by rfl) : But g a w' :=
  ⟨h1.trans h.os, h2.trans h.tape, h3.trans h.output, Nat.le_trans h.size hs, fun k hk1 hn => (hk k hk1).trans (h.block k hk1 hn)⟩
theorem But.setHigh {g : Nat} {a w : World} (h : But g a w) {p : Addr} (hp : a.heap.size ≤ p.block) (u : Value) : But g a (w.setCell p u) :=
  h.trans' (by simp [World.setCell]) (fun k hk => Below.heap_setCell _ _ _ _ (by omega))
theorem But.allocHigh {g : Nat} {a w : World} (h : But g a w) (o : Obj) : But g a (w.alloc o) := h.trans (But.of_below ((Below.refl _ _).alloc (Nat.le_refl _) _))
theorem RdAt.far {w : World} {g : Nat} {v : Value} {a e : Int} (h : RdAt w g v a e) {p : Addr} (hp : p.block ≠ g) (u : Value) : RdAt (w.setCell p u) g v a e := by
  obtain ⟨h0, c0, c1, c2, f0, f1, f2⟩ := h
  have key : ∀ i x, w.cell? ⟨g, i, none⟩ = some x → (w.setCell p u).cell? ⟨g, i, none⟩ = some x := fun i x hx => by rw [World.cell?_setCell_far w p ⟨g, i, none⟩ u hp]; exact hx
  exact ⟨by simp [World.setCell]; exact h0, key 0 _ c0, key 1 _ c1, key 2 _ c2, by rw [World.frozen?_setCell]; exact f0, by rw [World.frozen?_setCell]; exact f1, by rw [World.frozen?_setCell]; exact f2⟩
/-- An instruction in memory. -/
structure InAt (w : World) (h : Nat) (op A B K : Int) (o : Value) : Prop where
  lt : h < w.heap.size
  c0 : w.cell? ⟨h, 0, none⟩ = some (.int .i64 op)
  c1 : w.cell? ⟨h, 1, none⟩ = some (.int .i64 A)
  c2 : w.cell? ⟨h, 2, none⟩ = some (.int .i64 B)
  c3 : w.cell? ⟨h, 3, none⟩ = some (.int .u64 K)
  c4 : w.cell? ⟨h, 4, none⟩ = some o
  f0 : w.frozen? ⟨h, 0, none⟩ = false
  f1 : w.frozen? ⟨h, 1, none⟩ = false
  f2 : w.frozen? ⟨h, 2, none⟩ = false
  f3 : w.frozen? ⟨h, 3, none⟩ = false
  f4 : w.frozen? ⟨h, 4, none⟩ = false
theorem InAt.but {w w' : World} {g h : Nat} {op A B K : Int} {o : Value} (x : InAt w h op A B K o) (hb : But g w w') (hn : h ≠ g) : InAt w' h op A B K o := by
  obtain ⟨h0, c0, c1, c2, c3, c4, f0, f1, f2, f3, f4⟩ := x
  have key : ∀ i, w'.cell? ⟨h, i, none⟩ = w.cell? ⟨h, i, none⟩ := fun i => hb.cell (p := ⟨h, i, none⟩) h0 hn
  have fey : ∀ i, w'.frozen? ⟨h, i, none⟩ = w.frozen? ⟨h, i, none⟩ := fun i => hb.frozen (p := ⟨h, i, none⟩) h0 hn
  exact ⟨Nat.lt_of_lt_of_le h0 hb.size, by rw [key]; exact c0, by rw [key]; exact c1, by rw [key]; exact c2, by rw [key]; exact c3, by rw [key]; exact c4, by rw [fey]; exact f0, by rw [fey]; exact f1, by rw [fey]; exact f2, by rw [fey]; exact f3, by rw [fey]; exact f4⟩
theorem InAt.keep {w w' : World} {h : Nat} {op A B K : Int} {o : Value} (x : InAt w h op A B K o) (hb : Below w.heap.size w w') : InAt w' h op A B K o := x.but (But.of_below (g := h + 1) hb) (by omega)
theorem InAt.far {w : World} {h : Nat} {op A B K : Int} {o : Value} (x : InAt w h op A B K o) {p : Addr} (hp : p.block ≠ h) (u : Value) : InAt (w.setCell p u) h op A B K o := by
  obtain ⟨h0, c0, c1, c2, c3, c4, f0, f1, f2, f3, f4⟩ := x
  have key : ∀ i x, w.cell? ⟨h, i, none⟩ = some x → (w.setCell p u).cell? ⟨h, i, none⟩ = some x := fun i x hx => by rw [World.cell?_setCell_far w p ⟨h, i, none⟩ u hp]; exact hx
  exact ⟨by simp [World.setCell]; exact h0, key 0 _ c0, key 1 _ c1, key 2 _ c2, key 3 _ c3, key 4 _ c4, by rw [World.frozen?_setCell]; exact f0, by rw [World.frozen?_setCell]; exact f1, by rw [World.frozen?_setCell]; exact f2, by rw [World.frozen?_setCell]; exact f3, by rw [World.frozen?_setCell]; exact f4⟩
theorem InAt.at_ (w : World) (h : Nat) (op A B K : Int) (o : Value) (t : TypeId) (hh : h = w.heap.size) : InAt (w.alloc (.cells #[.int .i64 op, .int .i64 A, .int .i64 B, .int .u64 K, o] t)) h op A B K o := by
  subst hh
  exact ⟨by simp, by simp, by simp, by simp, by simp, by simp, by simp, by simp, by simp, by simp, by simp⟩
theorem InAt.setA {w : World} {h : Nat} {op A B K : Int} {o : Value} (y : InAt w h op A B K o) (x : Int) : InAt (w.setCell ⟨h, 1, none⟩ (.int .i64 x)) h op x B K o := by
  obtain ⟨h0, c0, c1, c2, c3, c4, f0, f1, f2, f3, f4⟩ := y
  exact ⟨by simp [World.setCell]; exact h0, by rw [World.cell?_setCell_other (h := by simp)]; exact c0, by apply World.cell?_setCell_same; exact c1, by rw [World.cell?_setCell_other (h := by simp)]; exact c2, by rw [World.cell?_setCell_other (h := by simp)]; exact c3, by rw [World.cell?_setCell_other (h := by simp)]; exact c4, by rw [World.frozen?_setCell]; exact f0, by rw [World.frozen?_setCell]; exact f1, by rw [World.frozen?_setCell]; exact f2, by rw [World.frozen?_setCell]; exact f3, by rw [World.frozen?_setCell]; exact f4⟩
theorem InAt.setB {w : World} {h : Nat} {op A B K : Int} {o : Value} (y : InAt w h op A B K o) (x : Int) : InAt (w.setCell ⟨h, 2, none⟩ (.int .i64 x)) h op A x K o := by
  obtain ⟨h0, c0, c1, c2, c3, c4, f0, f1, f2, f3, f4⟩ := y
  exact ⟨by simp [World.setCell]; exact h0, by rw [World.cell?_setCell_other (h := by simp)]; exact c0, by rw [World.cell?_setCell_other (h := by simp)]; exact c1, by apply World.cell?_setCell_same; exact c2, by rw [World.cell?_setCell_other (h := by simp)]; exact c3, by rw [World.cell?_setCell_other (h := by simp)]; exact c4, by rw [World.frozen?_setCell]; exact f0, by rw [World.frozen?_setCell]; exact f1, by rw [World.frozen?_setCell]; exact f2, by rw [World.frozen?_setCell]; exact f3, by rw [World.frozen?_setCell]; exact f4⟩
theorem InAt.setK {w : World} {h : Nat} {op A B K : Int} {o : Value} (y : InAt w h op A B K o) (x : Int) : InAt (w.setCell ⟨h, 3, none⟩ (.int .u64 x)) h op A B x o := by
  obtain ⟨h0, c0, c1, c2, c3, c4, f0, f1, f2, f3, f4⟩ := y
  exact ⟨by simp [World.setCell]; exact h0, by rw [World.cell?_setCell_other (h := by simp)]; exact c0, by rw [World.cell?_setCell_other (h := by simp)]; exact c1, by rw [World.cell?_setCell_other (h := by simp)]; exact c2, by apply World.cell?_setCell_same; exact c3, by rw [World.cell?_setCell_other (h := by simp)]; exact c4, by rw [World.frozen?_setCell]; exact f0, by rw [World.frozen?_setCell]; exact f1, by rw [World.frozen?_setCell]; exact f2, by rw [World.frozen?_setCell]; exact f3, by rw [World.frozen?_setCell]; exact f4⟩
theorem InAt.setL {w : World} {h : Nat} {op A B K : Int} {o : Value} (y : InAt w h op A B K o) (x : Value) : InAt (w.setCell ⟨h, 4, none⟩ (x)) h op A B K x := by
  obtain ⟨h0, c0, c1, c2, c3, c4, f0, f1, f2, f3, f4⟩ := y
  exact ⟨by simp [World.setCell]; exact h0, by rw [World.cell?_setCell_other (h := by simp)]; exact c0, by rw [World.cell?_setCell_other (h := by simp)]; exact c1, by rw [World.cell?_setCell_other (h := by simp)]; exact c2, by rw [World.cell?_setCell_other (h := by simp)]; exact c3, by apply World.cell?_setCell_same; exact c4, by rw [World.frozen?_setCell]; exact f0, by rw [World.frozen?_setCell]; exact f1, by rw [World.frozen?_setCell]; exact f2, by rw [World.frozen?_setCell]; exact f3, by rw [World.frozen?_setCell]; exact f4⟩
/-- Whole numbers of the call's own (nil, if there are none yet). -/
def vi (l : List Int) : List Value := l.map (Value.int .i64)
def OwnI (w : World) (B : Nat) (v : Value) (l : List Int) : Prop := w.ownsRow B 3 1 v l.length (vi l)
theorem ownI_nil (w : World) (B : Nat) : OwnI w B (.slice none 0 0) [] := ⟨rfl, .inl ⟨rfl, rfl⟩⟩
/-- An instruction, told; the place; the error. -/
def InTold (v : Value) (g : Nat) (op A B K : Int) (L : List Int) (a : Nat) (e : Int) (w : World) (en : Ending) (w' : World) : Prop :=
  ∃ o, en = .returned (.agg #[.int .i64 op, .int .i64 A, .int .i64 B, .int .u64 K, o]) ∧ OwnI w' w.heap.size o L ∧ RdAt w' g v (a : Int) e ∧ But g w w'
theorem Rd.far {w0 w : World} {v : Value} {l : List Int} {g a : Nat} {e : Int} (h : Rd w0 v l g w a e) {p : Addr} (hp : p.block ≠ g) (hq : w0.heap.size ≤ p.block) (u : Value) : Rd w0 v l g (w.setCell p u) a e :=
  ⟨h.sl, h.by_, h.len, h.at_le, h.base, h.below.setCell hq u, h.rd.far hp u⟩
theorem fail_no {w0 w : World} {v : Value} {l : List Int} {g a : Nat} {e : Int} (err : Int) (h : Rd w0 v l g w a e) : Calls Tryd.prog 73 #[.pointer (some ⟨g, 0, none⟩), .bool false, .int .i64 err] w (Turn v g (.tuple #[]) a e w) := fail_any false err h
end Go.Proofs.YtdmidagcdhhlhaaDoor.Ins

/- The document's reader: the next instruction: E. -/
namespace Go.Proofs.YtdmidagcdhhlhaaDoor.Ins
open Go.RowKit Ints Typ
set_option maxRecDepth 100000
set_option maxHeartbeats 2000000

theorem ins_plain {w0 w : World} {v : Value} {l : List Int} {g a : Nat} {e : Int} (hr : Rd w0 v l g w a e) (op e1 : Int) (a1 : Nat)
    (h1 : a1 ≤ l.length)
    (hB : ∀ W, Rd w0 v l g W a e → Calls Tryd.prog 72 #[.pointer (some ⟨g, 0, none⟩)] W (Turn v g (.int .i64 op) a1 e1 W))
    (hK : ∀ W, Calls Tryd.prog 57 #[.int .i64 op] W fun en w' => en = .returned (.int .i64 1) ∧ Below W.heap.size W w')
    : Calls Tryd.prog 53 #[.pointer (some ⟨g, 0, none⟩)] w (InTold v g op (0) (0) (0) [] a1 e1 w) := by
  have HR := Lib.hid hr
  have HG : Hid (w.heap.size ≠ g) := by have := hr.rd.lt; show _ ≠ _; omega
  have HH1 := Lib.hid h1
  have HB0 := Lib.hid hB
  have HK := Lib.hid hK
  clear hr h1 hB hK
  go_enter Tryd.func53, Tryd.ntmps53
  go_wp2_with fail
  have HA := Lib.hid ((Below.refl w.heap.size w).alloc (Nat.le_refl _) (.cells #[.int .i64 0, .int .i64 0, .int .i64 0, .int .u64 0, .slice none 0 0] 50))
  refine (HB0.out _ (HR.out.keep HA.out)).mono ?_
  rintro en w1 ⟨rfl, hr1, hb1⟩
  have HR := Lib.hid ((HR.out.keep HA.out).turn hr1 hb1 HH1.out)
  have HO := Lib.hid ((InAt.at_ w w.heap.size 0 0 0 0 (.slice none 0 0) 50 rfl).but hb1 HG.out)
  have HB := Lib.hid (((But.refl g w).allocHigh (.cells #[.int .i64 0, .int .i64 0, .int .i64 0, .int .u64 0, .slice none 0 0] 50)).trans hb1)
  clear hr1 hb1
  go_wp2_with fail
  have HA1 := Lib.hid ((Below.refl w1.heap.size w1).alloc (Nat.le_refl _) (.cells #[.int .i64 op, .int .i64 0, .int .i64 0, .int .u64 0, .slice none 0 0] 50))
  refine (HK.out _).mono ?_
  rintro en w2 ⟨rfl, hb2⟩
  have HC := Lib.hid (HA1.out.trans (hb2.mono HA1.out.size))
  have HI := Lib.hid ((InAt.at_ w1 w1.heap.size op 0 0 0 (.slice none 0 0) 50 rfl).keep hb2)
  have HHG : Hid (w1.heap.size ≠ g) := by have := HR.out.rd.lt; show _ ≠ _; omega
  have HW0 : Hid (w0.heap.size ≤ w1.heap.size) := HR.out.below.size
  have HWW : Hid (w.heap.size ≤ w1.heap.size) := HB.out.size
  have HHO : Hid (w1.heap.size ≠ w.heap.size) := by have := HO.out.lt; show _ ≠ _; omega
  have HR := Lib.hid (HR.out.keep HC.out)
  have HO := Lib.hid (HO.out.keep HC.out)
  have HB := Lib.hid (HB.out.trans (But.of_below HC.out))
  clear hb2
  obtain ⟨i0, ic0, ic1, ic2, ic3, ic4, if0, if1, if2, if3, if4⟩ := HI.out
  go_wp2_with fail
  refine (fail_no 3 HR.out).mono ?_
  rintro en w3 ⟨rfl, hr, hb⟩
  have HR := Lib.hid (HR.out.turn hr hb HR.out.at_le)
  have HI := Lib.hid (HI.out.but hb HHG.out)
  have HO := Lib.hid (HO.out.but hb HG.out)
  have HB := Lib.hid (HB.out.trans hb)
  clear hr hb
  clear i0 ic0 ic1 ic2 ic3 ic4 if0 if1 if2 if3 if4
  obtain ⟨i0, ic0, ic1, ic2, ic3, ic4, if0, if1, if2, if3, if4⟩ := HI.out
  obtain ⟨o0, oc0, oc1, oc2, oc3, oc4, of0, of1, of2, of3, of4⟩ := HO.out
  go_wp2_with fail
  refine bodyPost_ret (v := .agg #[.int .i64 op, .int .i64 (0), .int .i64 (0), .int .u64 (0), .slice none 0 0]) (by simp [results, Tryd.results53, go_sem, oc0, oc1, oc2, oc3, oc4]) rfl ⟨_, rfl, ownI_nil _ _, ?_, ?_⟩
  · exact (((((HR.out.rd.far (p := ⟨w.heap.size, 0, none⟩) HG.out _).far (p := ⟨w.heap.size, 1, none⟩) HG.out _).far (p := ⟨w.heap.size, 2, none⟩) HG.out _).far (p := ⟨w.heap.size, 3, none⟩) HG.out _).far (p := ⟨w.heap.size, 4, none⟩) HG.out _)
  · exact (((((HB.out.setHigh (p := ⟨w.heap.size, 0, none⟩) (Nat.le_refl _) _).setHigh (p := ⟨w.heap.size, 1, none⟩) (Nat.le_refl _) _).setHigh (p := ⟨w.heap.size, 2, none⟩) (Nat.le_refl _) _).setHigh (p := ⟨w.heap.size, 3, none⟩) (Nat.le_refl _) _).setHigh (p := ⟨w.heap.size, 4, none⟩) (Nat.le_refl _) _)
theorem ins_bad {w0 w : World} {v : Value} {l : List Int} {g a : Nat} {e : Int} (hr : Rd w0 v l g w a e) (op e1 : Int) (a1 : Nat) (f2 : Int)
    (h1 : a1 ≤ l.length)
    (hB : ∀ W, Rd w0 v l g W a e → Calls Tryd.prog 72 #[.pointer (some ⟨g, 0, none⟩)] W (Turn v g (.int .i64 op) a1 e1 W))
    (hK : ∀ W, Calls Tryd.prog 57 #[.int .i64 op] W fun en w' => en = .returned (.int .i64 0) ∧ Below W.heap.size W w')
    (hF2 : ∀ W, Rd w0 v l g W a1 e1 → Calls Tryd.prog 73 #[.pointer (some ⟨g, 0, none⟩), .bool true, .int .i64 3] W (Turn v g (.tuple #[]) a1 f2 W))
    : Calls Tryd.prog 53 #[.pointer (some ⟨g, 0, none⟩)] w (InTold v g op (0) (0) (0) [] a1 f2 w) := by
  have HR := Lib.hid hr
  have HG : Hid (w.heap.size ≠ g) := by have := hr.rd.lt; show _ ≠ _; omega
  have HH1 := Lib.hid h1
  have HB0 := Lib.hid hB
  have HK := Lib.hid hK
  have HF2 := Lib.hid hF2
  clear hr h1 hB hK hF2
  go_enter Tryd.func53, Tryd.ntmps53
  go_wp2_with fail
  have HA := Lib.hid ((Below.refl w.heap.size w).alloc (Nat.le_refl _) (.cells #[.int .i64 0, .int .i64 0, .int .i64 0, .int .u64 0, .slice none 0 0] 50))
  refine (HB0.out _ (HR.out.keep HA.out)).mono ?_
  rintro en w1 ⟨rfl, hr1, hb1⟩
  have HR := Lib.hid ((HR.out.keep HA.out).turn hr1 hb1 HH1.out)
  have HO := Lib.hid ((InAt.at_ w w.heap.size 0 0 0 0 (.slice none 0 0) 50 rfl).but hb1 HG.out)
  have HB := Lib.hid (((But.refl g w).allocHigh (.cells #[.int .i64 0, .int .i64 0, .int .i64 0, .int .u64 0, .slice none 0 0] 50)).trans hb1)
  clear hr1 hb1
  go_wp2_with fail
  have HA1 := Lib.hid ((Below.refl w1.heap.size w1).alloc (Nat.le_refl _) (.cells #[.int .i64 op, .int .i64 0, .int .i64 0, .int .u64 0, .slice none 0 0] 50))
  refine (HK.out _).mono ?_
  rintro en w2 ⟨rfl, hb2⟩
  have HC := Lib.hid (HA1.out.trans (hb2.mono HA1.out.size))
  have HI := Lib.hid ((InAt.at_ w1 w1.heap.size op 0 0 0 (.slice none 0 0) 50 rfl).keep hb2)
  have HHG : Hid (w1.heap.size ≠ g) := by have := HR.out.rd.lt; show _ ≠ _; omega
  have HW0 : Hid (w0.heap.size ≤ w1.heap.size) := HR.out.below.size
  have HWW : Hid (w.heap.size ≤ w1.heap.size) := HB.out.size
  have HHO : Hid (w1.heap.size ≠ w.heap.size) := by have := HO.out.lt; show _ ≠ _; omega
  have HR := Lib.hid (HR.out.keep HC.out)
  have HO := Lib.hid (HO.out.keep HC.out)
  have HB := Lib.hid (HB.out.trans (But.of_below HC.out))
  clear hb2
  obtain ⟨i0, ic0, ic1, ic2, ic3, ic4, if0, if1, if2, if3, if4⟩ := HI.out
  go_wp2_with fail
  refine (HF2.out _ HR.out).mono ?_
  rintro en w3 ⟨rfl, hr, hb⟩
  have HR := Lib.hid (HR.out.turn hr hb HR.out.at_le)
  have HI := Lib.hid (HI.out.but hb HHG.out)
  have HO := Lib.hid (HO.out.but hb HG.out)
  have HB := Lib.hid (HB.out.trans hb)
  clear hr hb
  clear i0 ic0 ic1 ic2 ic3 ic4 if0 if1 if2 if3 if4
  obtain ⟨i0, ic0, ic1, ic2, ic3, ic4, if0, if1, if2, if3, if4⟩ := HI.out
  obtain ⟨o0, oc0, oc1, oc2, oc3, oc4, of0, of1, of2, of3, of4⟩ := HO.out
  go_wp2_with fail
  refine bodyPost_ret (v := .agg #[.int .i64 op, .int .i64 (0), .int .i64 (0), .int .u64 (0), .slice none 0 0]) (by simp [results, Tryd.results53, go_sem, oc0, oc1, oc2, oc3, oc4]) rfl ⟨_, rfl, ownI_nil _ _, ?_, ?_⟩
  · exact (((((HR.out.rd.far (p := ⟨w.heap.size, 0, none⟩) HG.out _).far (p := ⟨w.heap.size, 1, none⟩) HG.out _).far (p := ⟨w.heap.size, 2, none⟩) HG.out _).far (p := ⟨w.heap.size, 3, none⟩) HG.out _).far (p := ⟨w.heap.size, 4, none⟩) HG.out _)
  · exact (((((HB.out.setHigh (p := ⟨w.heap.size, 0, none⟩) (Nat.le_refl _) _).setHigh (p := ⟨w.heap.size, 1, none⟩) (Nat.le_refl _) _).setHigh (p := ⟨w.heap.size, 2, none⟩) (Nat.le_refl _) _).setHigh (p := ⟨w.heap.size, 3, none⟩) (Nat.le_refl _) _).setHigh (p := ⟨w.heap.size, 4, none⟩) (Nat.le_refl _) _)
theorem ins_index {w0 w : World} {v : Value} {l : List Int} {g a : Nat} {e : Int} (hr : Rd w0 v l g w a e) (op e1 : Int) (a1 : Nat) (x : Int) (a3 : Nat) (e3 : Int)
    (h1 : a1 ≤ l.length)
    (hB : ∀ W, Rd w0 v l g W a e → Calls Tryd.prog 72 #[.pointer (some ⟨g, 0, none⟩)] W (Turn v g (.int .i64 op) a1 e1 W))
    (hK : ∀ W, Calls Tryd.prog 57 #[.int .i64 op] W fun en w' => en = .returned (.int .i64 3) ∧ Below W.heap.size W w')
    (hU3 : ∀ W, Rd w0 v l g W a1 e1 → Calls Tryd.prog 74 #[.pointer (some ⟨g, 0, none⟩)] W (Turn v g (.int .i64 x) a3 e3 W))
    (hl3 : a3 ≤ l.length)
    : Calls Tryd.prog 53 #[.pointer (some ⟨g, 0, none⟩)] w (InTold v g op (x) (0) (0) [] a3 e3 w) := by
  have HR := Lib.hid hr
  have HG : Hid (w.heap.size ≠ g) := by have := hr.rd.lt; show _ ≠ _; omega
  have HH1 := Lib.hid h1
  have HB0 := Lib.hid hB
  have HK := Lib.hid hK
  have HU3 := Lib.hid hU3
  clear hr h1 hB hK hU3
  go_enter Tryd.func53, Tryd.ntmps53
  go_wp2_with fail
  have HA := Lib.hid ((Below.refl w.heap.size w).alloc (Nat.le_refl _) (.cells #[.int .i64 0, .int .i64 0, .int .i64 0, .int .u64 0, .slice none 0 0] 50))
  refine (HB0.out _ (HR.out.keep HA.out)).mono ?_
  rintro en w1 ⟨rfl, hr1, hb1⟩
  have HR := Lib.hid ((HR.out.keep HA.out).turn hr1 hb1 HH1.out)
  have HO := Lib.hid ((InAt.at_ w w.heap.size 0 0 0 0 (.slice none 0 0) 50 rfl).but hb1 HG.out)
  have HB := Lib.hid (((But.refl g w).allocHigh (.cells #[.int .i64 0, .int .i64 0, .int .i64 0, .int .u64 0, .slice none 0 0] 50)).trans hb1)
  clear hr1 hb1
  go_wp2_with fail
  have HA1 := Lib.hid ((Below.refl w1.heap.size w1).alloc (Nat.le_refl _) (.cells #[.int .i64 op, .int .i64 0, .int .i64 0, .int .u64 0, .slice none 0 0] 50))
  refine (HK.out _).mono ?_
  rintro en w2 ⟨rfl, hb2⟩
  have HC := Lib.hid (HA1.out.trans (hb2.mono HA1.out.size))
  have HI := Lib.hid ((InAt.at_ w1 w1.heap.size op 0 0 0 (.slice none 0 0) 50 rfl).keep hb2)
  have HHG : Hid (w1.heap.size ≠ g) := by have := HR.out.rd.lt; show _ ≠ _; omega
  have HW0 : Hid (w0.heap.size ≤ w1.heap.size) := HR.out.below.size
  have HWW : Hid (w.heap.size ≤ w1.heap.size) := HB.out.size
  have HHO : Hid (w1.heap.size ≠ w.heap.size) := by have := HO.out.lt; show _ ≠ _; omega
  have HR := Lib.hid (HR.out.keep HC.out)
  have HO := Lib.hid (HO.out.keep HC.out)
  have HB := Lib.hid (HB.out.trans (But.of_below HC.out))
  clear hb2
  obtain ⟨i0, ic0, ic1, ic2, ic3, ic4, if0, if1, if2, if3, if4⟩ := HI.out
  go_wp2_with fail
  refine (fail_no 3 HR.out).mono ?_
  rintro en w3 ⟨rfl, hr, hb⟩
  have HR := Lib.hid (HR.out.turn hr hb HR.out.at_le)
  have HI := Lib.hid (HI.out.but hb HHG.out)
  have HO := Lib.hid (HO.out.but hb HG.out)
  have HB := Lib.hid (HB.out.trans hb)
  clear hr hb
  clear i0 ic0 ic1 ic2 ic3 ic4 if0 if1 if2 if3 if4
  obtain ⟨i0, ic0, ic1, ic2, ic3, ic4, if0, if1, if2, if3, if4⟩ := HI.out
  go_wp2_with fail
  refine (HU3.out _ HR.out).mono ?_
  rintro en w4 ⟨rfl, hr, hb⟩
  have HR := Lib.hid (HR.out.turn hr hb hl3)
  have HI := Lib.hid (HI.out.but hb HHG.out)
  have HO := Lib.hid (HO.out.but hb HG.out)
  have HB := Lib.hid (HB.out.trans hb)
  clear hr hb
  clear i0 ic0 ic1 ic2 ic3 ic4 if0 if1 if2 if3 if4
  obtain ⟨i0, ic0, ic1, ic2, ic3, ic4, if0, if1, if2, if3, if4⟩ := HI.out
  obtain ⟨o0, oc0, oc1, oc2, oc3, oc4, of0, of1, of2, of3, of4⟩ := HO.out
  have hn1 : w1.heap.size ≠ w.heap.size := HHO.out
  have hn2 : w.heap.size ≠ w1.heap.size := fun e => HHO.out e.symm
  go_wp2_with fail
  have HR := Lib.hid (HR.out.far (p := ⟨w1.heap.size, 1, none⟩) HHG.out HW0.out (.int .i64 (x)))
  have HI := Lib.hid (HI.out.setA (x))
  have HO := Lib.hid (HO.out.far (p := ⟨w1.heap.size, 1, none⟩) HHO.out (.int .i64 (x)))
  have HB := Lib.hid (HB.out.setHigh (p := ⟨w1.heap.size, 1, none⟩) HWW.out (.int .i64 (x)))
  refine bodyPost_ret (v := .agg #[.int .i64 op, .int .i64 (x), .int .i64 (0), .int .u64 (0), .slice none 0 0]) (by simp [results, Tryd.results53, go_sem, oc0, oc1, oc2, oc3, oc4]) rfl ⟨_, rfl, ownI_nil _ _, ?_, ?_⟩
  · exact (((((HR.out.rd.far (p := ⟨w.heap.size, 0, none⟩) HG.out _).far (p := ⟨w.heap.size, 1, none⟩) HG.out _).far (p := ⟨w.heap.size, 2, none⟩) HG.out _).far (p := ⟨w.heap.size, 3, none⟩) HG.out _).far (p := ⟨w.heap.size, 4, none⟩) HG.out _)
  · exact (((((HB.out.setHigh (p := ⟨w.heap.size, 0, none⟩) (Nat.le_refl _) _).setHigh (p := ⟨w.heap.size, 1, none⟩) (Nat.le_refl _) _).setHigh (p := ⟨w.heap.size, 2, none⟩) (Nat.le_refl _) _).setHigh (p := ⟨w.heap.size, 3, none⟩) (Nat.le_refl _) _).setHigh (p := ⟨w.heap.size, 4, none⟩) (Nat.le_refl _) _)
end Go.Proofs.YtdmidagcdhhlhaaDoor.Ins

/- The document's reader: the next instruction: B. -/
namespace Go.Proofs.YtdmidagcdhhlhaaDoor.Ins
open Go.RowKit Ints Typ
set_option maxRecDepth 100000
set_option maxHeartbeats 2000000

theorem ins_block64 {w0 w : World} {v : Value} {l : List Int} {g a : Nat} {e : Int} (hr : Rd w0 v l g w a e) (op e1 : Int) (a1 : Nat) (a3 : Nat) (e3 : Int)
    (h1 : a1 ≤ l.length)
    (hB : ∀ W, Rd w0 v l g W a e → Calls Tryd.prog 72 #[.pointer (some ⟨g, 0, none⟩)] W (Turn v g (.int .i64 op) a1 e1 W))
    (hK : ∀ W, Calls Tryd.prog 57 #[.int .i64 op] W fun en w' => en = .returned (.int .i64 2) ∧ Below W.heap.size W w')
    (hByte3 : ∀ W, Rd w0 v l g W a1 e1 → Calls Tryd.prog 72 #[.pointer (some ⟨g, 0, none⟩)] W (Turn v g (.int .i64 64) a3 e3 W))
    (hl3 : a3 ≤ l.length)
    : Calls Tryd.prog 53 #[.pointer (some ⟨g, 0, none⟩)] w (InTold v g op (0) (0) (0) [] a3 e3 w) := by
  have HR := Lib.hid hr
  have HG : Hid (w.heap.size ≠ g) := by have := hr.rd.lt; show _ ≠ _; omega
  have HH1 := Lib.hid h1
  have HB0 := Lib.hid hB
  have HK := Lib.hid hK
  have HByte3 := Lib.hid hByte3
  clear hr h1 hB hK hByte3
  go_enter Tryd.func53, Tryd.ntmps53
  go_wp2_with fail
  have HA := Lib.hid ((Below.refl w.heap.size w).alloc (Nat.le_refl _) (.cells #[.int .i64 0, .int .i64 0, .int .i64 0, .int .u64 0, .slice none 0 0] 50))
  refine (HB0.out _ (HR.out.keep HA.out)).mono ?_
  rintro en w1 ⟨rfl, hr1, hb1⟩
  have HR := Lib.hid ((HR.out.keep HA.out).turn hr1 hb1 HH1.out)
  have HO := Lib.hid ((InAt.at_ w w.heap.size 0 0 0 0 (.slice none 0 0) 50 rfl).but hb1 HG.out)
  have HB := Lib.hid (((But.refl g w).allocHigh (.cells #[.int .i64 0, .int .i64 0, .int .i64 0, .int .u64 0, .slice none 0 0] 50)).trans hb1)
  clear hr1 hb1
  go_wp2_with fail
  have HA1 := Lib.hid ((Below.refl w1.heap.size w1).alloc (Nat.le_refl _) (.cells #[.int .i64 op, .int .i64 0, .int .i64 0, .int .u64 0, .slice none 0 0] 50))
  refine (HK.out _).mono ?_
  rintro en w2 ⟨rfl, hb2⟩
  have HC := Lib.hid (HA1.out.trans (hb2.mono HA1.out.size))
  have HI := Lib.hid ((InAt.at_ w1 w1.heap.size op 0 0 0 (.slice none 0 0) 50 rfl).keep hb2)
  have HHG : Hid (w1.heap.size ≠ g) := by have := HR.out.rd.lt; show _ ≠ _; omega
  have HW0 : Hid (w0.heap.size ≤ w1.heap.size) := HR.out.below.size
  have HWW : Hid (w.heap.size ≤ w1.heap.size) := HB.out.size
  have HHO : Hid (w1.heap.size ≠ w.heap.size) := by have := HO.out.lt; show _ ≠ _; omega
  have HR := Lib.hid (HR.out.keep HC.out)
  have HO := Lib.hid (HO.out.keep HC.out)
  have HB := Lib.hid (HB.out.trans (But.of_below HC.out))
  clear hb2
  obtain ⟨i0, ic0, ic1, ic2, ic3, ic4, if0, if1, if2, if3, if4⟩ := HI.out
  go_wp2_with fail
  refine (fail_no 3 HR.out).mono ?_
  rintro en w3 ⟨rfl, hr, hb⟩
  have HR := Lib.hid (HR.out.turn hr hb HR.out.at_le)
  have HI := Lib.hid (HI.out.but hb HHG.out)
  have HO := Lib.hid (HO.out.but hb HG.out)
  have HB := Lib.hid (HB.out.trans hb)
  clear hr hb
  clear i0 ic0 ic1 ic2 ic3 ic4 if0 if1 if2 if3 if4
  obtain ⟨i0, ic0, ic1, ic2, ic3, ic4, if0, if1, if2, if3, if4⟩ := HI.out
  go_wp2_with fail
  refine (HByte3.out _ HR.out).mono ?_
  rintro en w4 ⟨rfl, hr, hb⟩
  have HR := Lib.hid (HR.out.turn hr hb hl3)
  have HI := Lib.hid (HI.out.but hb HHG.out)
  have HO := Lib.hid (HO.out.but hb HG.out)
  have HB := Lib.hid (HB.out.trans hb)
  clear hr hb
  clear i0 ic0 ic1 ic2 ic3 ic4 if0 if1 if2 if3 if4
  obtain ⟨i0, ic0, ic1, ic2, ic3, ic4, if0, if1, if2, if3, if4⟩ := HI.out
  go_wp2_with fail
  have HR := Lib.hid (HR.out.far (p := ⟨w1.heap.size, 1, none⟩) HHG.out HW0.out (.int .i64 (64)))
  have HI := Lib.hid (HI.out.setA (64))
  have HO := Lib.hid (HO.out.far (p := ⟨w1.heap.size, 1, none⟩) HHO.out (.int .i64 (64)))
  have HB := Lib.hid (HB.out.setHigh (p := ⟨w1.heap.size, 1, none⟩) HWW.out (.int .i64 (64)))
  refine (fail_no 3 HR.out).mono ?_
  rintro en w5 ⟨rfl, hr, hb⟩
  have HR := Lib.hid (HR.out.turn hr hb HR.out.at_le)
  have HI := Lib.hid (HI.out.but hb HHG.out)
  have HO := Lib.hid (HO.out.but hb HG.out)
  have HB := Lib.hid (HB.out.trans hb)
  clear hr hb
  clear i0 ic0 ic1 ic2 ic3 ic4 if0 if1 if2 if3 if4
  obtain ⟨i0, ic0, ic1, ic2, ic3, ic4, if0, if1, if2, if3, if4⟩ := HI.out
  obtain ⟨o0, oc0, oc1, oc2, oc3, oc4, of0, of1, of2, of3, of4⟩ := HO.out
  have hn1 : w1.heap.size ≠ w.heap.size := HHO.out
  have hn2 : w.heap.size ≠ w1.heap.size := fun e => HHO.out e.symm
  go_wp2_with fail
  have HR := Lib.hid (HR.out.far (p := ⟨w1.heap.size, 1, none⟩) HHG.out HW0.out (.int .i64 (0)))
  have HI := Lib.hid (HI.out.setA (0))
  have HO := Lib.hid (HO.out.far (p := ⟨w1.heap.size, 1, none⟩) HHO.out (.int .i64 (0)))
  have HB := Lib.hid (HB.out.setHigh (p := ⟨w1.heap.size, 1, none⟩) HWW.out (.int .i64 (0)))
  refine bodyPost_ret (v := .agg #[.int .i64 op, .int .i64 (0), .int .i64 (0), .int .u64 (0), .slice none 0 0]) (by simp [results, Tryd.results53, go_sem, oc0, oc1, oc2, oc3, oc4]) rfl ⟨_, rfl, ownI_nil _ _, ?_, ?_⟩
  · exact (((((HR.out.rd.far (p := ⟨w.heap.size, 0, none⟩) HG.out _).far (p := ⟨w.heap.size, 1, none⟩) HG.out _).far (p := ⟨w.heap.size, 2, none⟩) HG.out _).far (p := ⟨w.heap.size, 3, none⟩) HG.out _).far (p := ⟨w.heap.size, 4, none⟩) HG.out _)
  · exact (((((HB.out.setHigh (p := ⟨w.heap.size, 0, none⟩) (Nat.le_refl _) _).setHigh (p := ⟨w.heap.size, 1, none⟩) (Nat.le_refl _) _).setHigh (p := ⟨w.heap.size, 2, none⟩) (Nat.le_refl _) _).setHigh (p := ⟨w.heap.size, 3, none⟩) (Nat.le_refl _) _).setHigh (p := ⟨w.heap.size, 4, none⟩) (Nat.le_refl _) _)
theorem ins_block126 {w0 w : World} {v : Value} {l : List Int} {g a : Nat} {e : Int} (hr : Rd w0 v l g w a e) (op e1 : Int) (a1 : Nat) (a3 : Nat) (e3 : Int)
    (h1 : a1 ≤ l.length)
    (hB : ∀ W, Rd w0 v l g W a e → Calls Tryd.prog 72 #[.pointer (some ⟨g, 0, none⟩)] W (Turn v g (.int .i64 op) a1 e1 W))
    (hK : ∀ W, Calls Tryd.prog 57 #[.int .i64 op] W fun en w' => en = .returned (.int .i64 2) ∧ Below W.heap.size W w')
    (hByte3 : ∀ W, Rd w0 v l g W a1 e1 → Calls Tryd.prog 72 #[.pointer (some ⟨g, 0, none⟩)] W (Turn v g (.int .i64 126) a3 e3 W))
    (hl3 : a3 ≤ l.length)
    : Calls Tryd.prog 53 #[.pointer (some ⟨g, 0, none⟩)] w (InTold v g op (126) (0) (0) [] a3 e3 w) := by
  have HR := Lib.hid hr
  have HG : Hid (w.heap.size ≠ g) := by have := hr.rd.lt; show _ ≠ _; omega
  have HH1 := Lib.hid h1
  have HB0 := Lib.hid hB
  have HK := Lib.hid hK
  have HByte3 := Lib.hid hByte3
  clear hr h1 hB hK hByte3
  go_enter Tryd.func53, Tryd.ntmps53
  go_wp2_with fail
  have HA := Lib.hid ((Below.refl w.heap.size w).alloc (Nat.le_refl _) (.cells #[.int .i64 0, .int .i64 0, .int .i64 0, .int .u64 0, .slice none 0 0] 50))
  refine (HB0.out _ (HR.out.keep HA.out)).mono ?_
  rintro en w1 ⟨rfl, hr1, hb1⟩
  have HR := Lib.hid ((HR.out.keep HA.out).turn hr1 hb1 HH1.out)
  have HO := Lib.hid ((InAt.at_ w w.heap.size 0 0 0 0 (.slice none 0 0) 50 rfl).but hb1 HG.out)
  have HB := Lib.hid (((But.refl g w).allocHigh (.cells #[.int .i64 0, .int .i64 0, .int .i64 0, .int .u64 0, .slice none 0 0] 50)).trans hb1)
  clear hr1 hb1
  go_wp2_with fail
  have HA1 := Lib.hid ((Below.refl w1.heap.size w1).alloc (Nat.le_refl _) (.cells #[.int .i64 op, .int .i64 0, .int .i64 0, .int .u64 0, .slice none 0 0] 50))
  refine (HK.out _).mono ?_
  rintro en w2 ⟨rfl, hb2⟩
  have HC := Lib.hid (HA1.out.trans (hb2.mono HA1.out.size))
  have HI := Lib.hid ((InAt.at_ w1 w1.heap.size op 0 0 0 (.slice none 0 0) 50 rfl).keep hb2)
  have HHG : Hid (w1.heap.size ≠ g) := by have := HR.out.rd.lt; show _ ≠ _; omega
  have HW0 : Hid (w0.heap.size ≤ w1.heap.size) := HR.out.below.size
  have HWW : Hid (w.heap.size ≤ w1.heap.size) := HB.out.size
  have HHO : Hid (w1.heap.size ≠ w.heap.size) := by have := HO.out.lt; show _ ≠ _; omega
  have HR := Lib.hid (HR.out.keep HC.out)
  have HO := Lib.hid (HO.out.keep HC.out)
  have HB := Lib.hid (HB.out.trans (But.of_below HC.out))
  clear hb2
  obtain ⟨i0, ic0, ic1, ic2, ic3, ic4, if0, if1, if2, if3, if4⟩ := HI.out
  go_wp2_with fail
  refine (fail_no 3 HR.out).mono ?_
  rintro en w3 ⟨rfl, hr, hb⟩
  have HR := Lib.hid (HR.out.turn hr hb HR.out.at_le)
  have HI := Lib.hid (HI.out.but hb HHG.out)
  have HO := Lib.hid (HO.out.but hb HG.out)
  have HB := Lib.hid (HB.out.trans hb)
  clear hr hb
  clear i0 ic0 ic1 ic2 ic3 ic4 if0 if1 if2 if3 if4
  obtain ⟨i0, ic0, ic1, ic2, ic3, ic4, if0, if1, if2, if3, if4⟩ := HI.out
  go_wp2_with fail
  refine (HByte3.out _ HR.out).mono ?_
  rintro en w4 ⟨rfl, hr, hb⟩
  have HR := Lib.hid (HR.out.turn hr hb hl3)
  have HI := Lib.hid (HI.out.but hb HHG.out)
  have HO := Lib.hid (HO.out.but hb HG.out)
  have HB := Lib.hid (HB.out.trans hb)
  clear hr hb
  clear i0 ic0 ic1 ic2 ic3 ic4 if0 if1 if2 if3 if4
  obtain ⟨i0, ic0, ic1, ic2, ic3, ic4, if0, if1, if2, if3, if4⟩ := HI.out
  go_wp2_with fail
  have HR := Lib.hid (HR.out.far (p := ⟨w1.heap.size, 1, none⟩) HHG.out HW0.out (.int .i64 (126)))
  have HI := Lib.hid (HI.out.setA (126))
  have HO := Lib.hid (HO.out.far (p := ⟨w1.heap.size, 1, none⟩) HHO.out (.int .i64 (126)))
  have HB := Lib.hid (HB.out.setHigh (p := ⟨w1.heap.size, 1, none⟩) HWW.out (.int .i64 (126)))
  refine (fail_no 3 HR.out).mono ?_
  rintro en w5 ⟨rfl, hr, hb⟩
  have HR := Lib.hid (HR.out.turn hr hb HR.out.at_le)
  have HI := Lib.hid (HI.out.but hb HHG.out)
  have HO := Lib.hid (HO.out.but hb HG.out)
  have HB := Lib.hid (HB.out.trans hb)
  clear hr hb
  clear i0 ic0 ic1 ic2 ic3 ic4 if0 if1 if2 if3 if4
  obtain ⟨i0, ic0, ic1, ic2, ic3, ic4, if0, if1, if2, if3, if4⟩ := HI.out
  obtain ⟨o0, oc0, oc1, oc2, oc3, oc4, of0, of1, of2, of3, of4⟩ := HO.out
  go_wp2_with fail
  refine bodyPost_ret (v := .agg #[.int .i64 op, .int .i64 (126), .int .i64 (0), .int .u64 (0), .slice none 0 0]) (by simp [results, Tryd.results53, go_sem, oc0, oc1, oc2, oc3, oc4]) rfl ⟨_, rfl, ownI_nil _ _, ?_, ?_⟩
  · exact (((((HR.out.rd.far (p := ⟨w.heap.size, 0, none⟩) HG.out _).far (p := ⟨w.heap.size, 1, none⟩) HG.out _).far (p := ⟨w.heap.size, 2, none⟩) HG.out _).far (p := ⟨w.heap.size, 3, none⟩) HG.out _).far (p := ⟨w.heap.size, 4, none⟩) HG.out _)
  · exact (((((HB.out.setHigh (p := ⟨w.heap.size, 0, none⟩) (Nat.le_refl _) _).setHigh (p := ⟨w.heap.size, 1, none⟩) (Nat.le_refl _) _).setHigh (p := ⟨w.heap.size, 2, none⟩) (Nat.le_refl _) _).setHigh (p := ⟨w.heap.size, 3, none⟩) (Nat.le_refl _) _).setHigh (p := ⟨w.heap.size, 4, none⟩) (Nat.le_refl _) _)
theorem ins_block127 {w0 w : World} {v : Value} {l : List Int} {g a : Nat} {e : Int} (hr : Rd w0 v l g w a e) (op e1 : Int) (a1 : Nat) (a3 : Nat) (e3 : Int)
    (h1 : a1 ≤ l.length)
    (hB : ∀ W, Rd w0 v l g W a e → Calls Tryd.prog 72 #[.pointer (some ⟨g, 0, none⟩)] W (Turn v g (.int .i64 op) a1 e1 W))
    (hK : ∀ W, Calls Tryd.prog 57 #[.int .i64 op] W fun en w' => en = .returned (.int .i64 2) ∧ Below W.heap.size W w')
    (hByte3 : ∀ W, Rd w0 v l g W a1 e1 → Calls Tryd.prog 72 #[.pointer (some ⟨g, 0, none⟩)] W (Turn v g (.int .i64 127) a3 e3 W))
    (hl3 : a3 ≤ l.length)
    : Calls Tryd.prog 53 #[.pointer (some ⟨g, 0, none⟩)] w (InTold v g op (127) (0) (0) [] a3 e3 w) := by
  have HR := Lib.hid hr
  have HG : Hid (w.heap.size ≠ g) := by have := hr.rd.lt; show _ ≠ _; omega
  have HH1 := Lib.hid h1
  have HB0 := Lib.hid hB
  have HK := Lib.hid hK
  have HByte3 := Lib.hid hByte3
  clear hr h1 hB hK hByte3
  go_enter Tryd.func53, Tryd.ntmps53
  go_wp2_with fail
  have HA := Lib.hid ((Below.refl w.heap.size w).alloc (Nat.le_refl _) (.cells #[.int .i64 0, .int .i64 0, .int .i64 0, .int .u64 0, .slice none 0 0] 50))
  refine (HB0.out _ (HR.out.keep HA.out)).mono ?_
  rintro en w1 ⟨rfl, hr1, hb1⟩
  have HR := Lib.hid ((HR.out.keep HA.out).turn hr1 hb1 HH1.out)
  have HO := Lib.hid ((InAt.at_ w w.heap.size 0 0 0 0 (.slice none 0 0) 50 rfl).but hb1 HG.out)
  have HB := Lib.hid (((But.refl g w).allocHigh (.cells #[.int .i64 0, .int .i64 0, .int .i64 0, .int .u64 0, .slice none 0 0] 50)).trans hb1)
  clear hr1 hb1
  go_wp2_with fail
  have HA1 := Lib.hid ((Below.refl w1.heap.size w1).alloc (Nat.le_refl _) (.cells #[.int .i64 op, .int .i64 0, .int .i64 0, .int .u64 0, .slice none 0 0] 50))
  refine (HK.out _).mono ?_
  rintro en w2 ⟨rfl, hb2⟩
  have HC := Lib.hid (HA1.out.trans (hb2.mono HA1.out.size))
  have HI := Lib.hid ((InAt.at_ w1 w1.heap.size op 0 0 0 (.slice none 0 0) 50 rfl).keep hb2)
  have HHG : Hid (w1.heap.size ≠ g) := by have := HR.out.rd.lt; show _ ≠ _; omega
  have HW0 : Hid (w0.heap.size ≤ w1.heap.size) := HR.out.below.size
  have HWW : Hid (w.heap.size ≤ w1.heap.size) := HB.out.size
  have HHO : Hid (w1.heap.size ≠ w.heap.size) := by have := HO.out.lt; show _ ≠ _; omega
  have HR := Lib.hid (HR.out.keep HC.out)
  have HO := Lib.hid (HO.out.keep HC.out)
  have HB := Lib.hid (HB.out.trans (But.of_below HC.out))
  clear hb2
  obtain ⟨i0, ic0, ic1, ic2, ic3, ic4, if0, if1, if2, if3, if4⟩ := HI.out
  go_wp2_with fail
  refine (fail_no 3 HR.out).mono ?_
  rintro en w3 ⟨rfl, hr, hb⟩
  have HR := Lib.hid (HR.out.turn hr hb HR.out.at_le)
  have HI := Lib.hid (HI.out.but hb HHG.out)
  have HO := Lib.hid (HO.out.but hb HG.out)
  have HB := Lib.hid (HB.out.trans hb)
  clear hr hb
  clear i0 ic0 ic1 ic2 ic3 ic4 if0 if1 if2 if3 if4
  obtain ⟨i0, ic0, ic1, ic2, ic3, ic4, if0, if1, if2, if3, if4⟩ := HI.out
  go_wp2_with fail
  refine (HByte3.out _ HR.out).mono ?_
  rintro en w4 ⟨rfl, hr, hb⟩
  have HR := Lib.hid (HR.out.turn hr hb hl3)
  have HI := Lib.hid (HI.out.but hb HHG.out)
  have HO := Lib.hid (HO.out.but hb HG.out)
  have HB := Lib.hid (HB.out.trans hb)
  clear hr hb
  clear i0 ic0 ic1 ic2 ic3 ic4 if0 if1 if2 if3 if4
  obtain ⟨i0, ic0, ic1, ic2, ic3, ic4, if0, if1, if2, if3, if4⟩ := HI.out
  go_wp2_with fail
  have HR := Lib.hid (HR.out.far (p := ⟨w1.heap.size, 1, none⟩) HHG.out HW0.out (.int .i64 (127)))
  have HI := Lib.hid (HI.out.setA (127))
  have HO := Lib.hid (HO.out.far (p := ⟨w1.heap.size, 1, none⟩) HHO.out (.int .i64 (127)))
  have HB := Lib.hid (HB.out.setHigh (p := ⟨w1.heap.size, 1, none⟩) HWW.out (.int .i64 (127)))
  refine (fail_no 3 HR.out).mono ?_
  rintro en w5 ⟨rfl, hr, hb⟩
  have HR := Lib.hid (HR.out.turn hr hb HR.out.at_le)
  have HI := Lib.hid (HI.out.but hb HHG.out)
  have HO := Lib.hid (HO.out.but hb HG.out)
  have HB := Lib.hid (HB.out.trans hb)
  clear hr hb
  clear i0 ic0 ic1 ic2 ic3 ic4 if0 if1 if2 if3 if4
  obtain ⟨i0, ic0, ic1, ic2, ic3, ic4, if0, if1, if2, if3, if4⟩ := HI.out
  obtain ⟨o0, oc0, oc1, oc2, oc3, oc4, of0, of1, of2, of3, of4⟩ := HO.out
  go_wp2_with fail
  refine bodyPost_ret (v := .agg #[.int .i64 op, .int .i64 (127), .int .i64 (0), .int .u64 (0), .slice none 0 0]) (by simp [results, Tryd.results53, go_sem, oc0, oc1, oc2, oc3, oc4]) rfl ⟨_, rfl, ownI_nil _ _, ?_, ?_⟩
  · exact (((((HR.out.rd.far (p := ⟨w.heap.size, 0, none⟩) HG.out _).far (p := ⟨w.heap.size, 1, none⟩) HG.out _).far (p := ⟨w.heap.size, 2, none⟩) HG.out _).far (p := ⟨w.heap.size, 3, none⟩) HG.out _).far (p := ⟨w.heap.size, 4, none⟩) HG.out _)
  · exact (((((HB.out.setHigh (p := ⟨w.heap.size, 0, none⟩) (Nat.le_refl _) _).setHigh (p := ⟨w.heap.size, 1, none⟩) (Nat.le_refl _) _).setHigh (p := ⟨w.heap.size, 2, none⟩) (Nat.le_refl _) _).setHigh (p := ⟨w.heap.size, 3, none⟩) (Nat.le_refl _) _).setHigh (p := ⟨w.heap.size, 4, none⟩) (Nat.le_refl _) _)
end Go.Proofs.YtdmidagcdhhlhaaDoor.Ins

/- The document's reader: the next instruction: B2. -/
namespace Go.Proofs.YtdmidagcdhhlhaaDoor.Ins
open Go.RowKit Ints Typ
set_option maxRecDepth 100000
set_option maxHeartbeats 2000000

theorem ins_blockbad {w0 w : World} {v : Value} {l : List Int} {g a : Nat} {e : Int} (hr : Rd w0 v l g w a e) (op e1 : Int) (a1 : Nat) (x : Int) (a3 : Nat) (e3 : Int) (f4 : Int)
    (h1 : a1 ≤ l.length)
    (hB : ∀ W, Rd w0 v l g W a e → Calls Tryd.prog 72 #[.pointer (some ⟨g, 0, none⟩)] W (Turn v g (.int .i64 op) a1 e1 W))
    (hK : ∀ W, Calls Tryd.prog 57 #[.int .i64 op] W fun en w' => en = .returned (.int .i64 2) ∧ Below W.heap.size W w')
    (q1 : (x != 64) = true)
    (q2 : (x != 126) = true)
    (q3 : (x != 127) = true)
    (q4 : (x == 64) = false)
    (hByte3 : ∀ W, Rd w0 v l g W a1 e1 → Calls Tryd.prog 72 #[.pointer (some ⟨g, 0, none⟩)] W (Turn v g (.int .i64 x) a3 e3 W))
    (hl3 : a3 ≤ l.length)
    (hF4 : ∀ W, Rd w0 v l g W a3 e3 → Calls Tryd.prog 73 #[.pointer (some ⟨g, 0, none⟩), .bool true, .int .i64 3] W (Turn v g (.tuple #[]) a3 f4 W))
    : Calls Tryd.prog 53 #[.pointer (some ⟨g, 0, none⟩)] w (InTold v g op (x) (0) (0) [] a3 f4 w) := by
  have HR := Lib.hid hr
  have HG : Hid (w.heap.size ≠ g) := by have := hr.rd.lt; show _ ≠ _; omega
  have HH1 := Lib.hid h1
  have HB0 := Lib.hid hB
  have HK := Lib.hid hK
  have HByte3 := Lib.hid hByte3
  have HF4 := Lib.hid hF4
  clear hr h1 hB hK hByte3 hF4
  go_enter Tryd.func53, Tryd.ntmps53
  go_wp2_with fail
  have HA := Lib.hid ((Below.refl w.heap.size w).alloc (Nat.le_refl _) (.cells #[.int .i64 0, .int .i64 0, .int .i64 0, .int .u64 0, .slice none 0 0] 50))
  refine (HB0.out _ (HR.out.keep HA.out)).mono ?_
  rintro en w1 ⟨rfl, hr1, hb1⟩
  have HR := Lib.hid ((HR.out.keep HA.out).turn hr1 hb1 HH1.out)
  have HO := Lib.hid ((InAt.at_ w w.heap.size 0 0 0 0 (.slice none 0 0) 50 rfl).but hb1 HG.out)
  have HB := Lib.hid (((But.refl g w).allocHigh (.cells #[.int .i64 0, .int .i64 0, .int .i64 0, .int .u64 0, .slice none 0 0] 50)).trans hb1)
  clear hr1 hb1
  go_wp2_with fail
  have HA1 := Lib.hid ((Below.refl w1.heap.size w1).alloc (Nat.le_refl _) (.cells #[.int .i64 op, .int .i64 0, .int .i64 0, .int .u64 0, .slice none 0 0] 50))
  refine (HK.out _).mono ?_
  rintro en w2 ⟨rfl, hb2⟩
  have HC := Lib.hid (HA1.out.trans (hb2.mono HA1.out.size))
  have HI := Lib.hid ((InAt.at_ w1 w1.heap.size op 0 0 0 (.slice none 0 0) 50 rfl).keep hb2)
  have HHG : Hid (w1.heap.size ≠ g) := by have := HR.out.rd.lt; show _ ≠ _; omega
  have HW0 : Hid (w0.heap.size ≤ w1.heap.size) := HR.out.below.size
  have HWW : Hid (w.heap.size ≤ w1.heap.size) := HB.out.size
  have HHO : Hid (w1.heap.size ≠ w.heap.size) := by have := HO.out.lt; show _ ≠ _; omega
  have HR := Lib.hid (HR.out.keep HC.out)
  have HO := Lib.hid (HO.out.keep HC.out)
  have HB := Lib.hid (HB.out.trans (But.of_below HC.out))
  clear hb2
  obtain ⟨i0, ic0, ic1, ic2, ic3, ic4, if0, if1, if2, if3, if4⟩ := HI.out
  go_wp2_with fail
  refine (fail_no 3 HR.out).mono ?_
  rintro en w3 ⟨rfl, hr, hb⟩
  have HR := Lib.hid (HR.out.turn hr hb HR.out.at_le)
  have HI := Lib.hid (HI.out.but hb HHG.out)
  have HO := Lib.hid (HO.out.but hb HG.out)
  have HB := Lib.hid (HB.out.trans hb)
  clear hr hb
  clear i0 ic0 ic1 ic2 ic3 ic4 if0 if1 if2 if3 if4
  obtain ⟨i0, ic0, ic1, ic2, ic3, ic4, if0, if1, if2, if3, if4⟩ := HI.out
  go_wp2_with fail
  refine (HByte3.out _ HR.out).mono ?_
  rintro en w4 ⟨rfl, hr, hb⟩
  have HR := Lib.hid (HR.out.turn hr hb hl3)
  have HI := Lib.hid (HI.out.but hb HHG.out)
  have HO := Lib.hid (HO.out.but hb HG.out)
  have HB := Lib.hid (HB.out.trans hb)
  clear hr hb
  clear i0 ic0 ic1 ic2 ic3 ic4 if0 if1 if2 if3 if4
  obtain ⟨i0, ic0, ic1, ic2, ic3, ic4, if0, if1, if2, if3, if4⟩ := HI.out
  go_wp2_with fail
  have HR := Lib.hid (HR.out.far (p := ⟨w1.heap.size, 1, none⟩) HHG.out HW0.out (.int .i64 (x)))
  have HI := Lib.hid (HI.out.setA (x))
  have HO := Lib.hid (HO.out.far (p := ⟨w1.heap.size, 1, none⟩) HHO.out (.int .i64 (x)))
  have HB := Lib.hid (HB.out.setHigh (p := ⟨w1.heap.size, 1, none⟩) HWW.out (.int .i64 (x)))
  refine (HF4.out _ HR.out).mono ?_
  rintro en w5 ⟨rfl, hr, hb⟩
  have HR := Lib.hid (HR.out.turn hr hb HR.out.at_le)
  have HI := Lib.hid (HI.out.but hb HHG.out)
  have HO := Lib.hid (HO.out.but hb HG.out)
  have HB := Lib.hid (HB.out.trans hb)
  clear hr hb
  clear i0 ic0 ic1 ic2 ic3 ic4 if0 if1 if2 if3 if4
  obtain ⟨i0, ic0, ic1, ic2, ic3, ic4, if0, if1, if2, if3, if4⟩ := HI.out
  obtain ⟨o0, oc0, oc1, oc2, oc3, oc4, of0, of1, of2, of3, of4⟩ := HO.out
  go_wp2_with fail
  refine bodyPost_ret (v := .agg #[.int .i64 op, .int .i64 (x), .int .i64 (0), .int .u64 (0), .slice none 0 0]) (by simp [results, Tryd.results53, go_sem, oc0, oc1, oc2, oc3, oc4]) rfl ⟨_, rfl, ownI_nil _ _, ?_, ?_⟩
  · exact (((((HR.out.rd.far (p := ⟨w.heap.size, 0, none⟩) HG.out _).far (p := ⟨w.heap.size, 1, none⟩) HG.out _).far (p := ⟨w.heap.size, 2, none⟩) HG.out _).far (p := ⟨w.heap.size, 3, none⟩) HG.out _).far (p := ⟨w.heap.size, 4, none⟩) HG.out _)
  · exact (((((HB.out.setHigh (p := ⟨w.heap.size, 0, none⟩) (Nat.le_refl _) _).setHigh (p := ⟨w.heap.size, 1, none⟩) (Nat.le_refl _) _).setHigh (p := ⟨w.heap.size, 2, none⟩) (Nat.le_refl _) _).setHigh (p := ⟨w.heap.size, 3, none⟩) (Nat.le_refl _) _).setHigh (p := ⟨w.heap.size, 4, none⟩) (Nat.le_refl _) _)
end Go.Proofs.YtdmidagcdhhlhaaDoor.Ins

/- The document's reader: the next instruction: C. -/
namespace Go.Proofs.YtdmidagcdhhlhaaDoor.Ins
open Go.RowKit Ints Typ
set_option maxRecDepth 100000
set_option maxHeartbeats 2000000

theorem ins_call0 {w0 w : World} {v : Value} {l : List Int} {g a : Nat} {e : Int} (hr : Rd w0 v l g w a e) (op e1 : Int) (a1 : Nat) (x : Int) (a3 : Nat) (e3 : Int) (a4 : Nat) (e4 : Int)
    (h1 : a1 ≤ l.length)
    (hB : ∀ W, Rd w0 v l g W a e → Calls Tryd.prog 72 #[.pointer (some ⟨g, 0, none⟩)] W (Turn v g (.int .i64 op) a1 e1 W))
    (hK : ∀ W, Calls Tryd.prog 57 #[.int .i64 op] W fun en w' => en = .returned (.int .i64 5) ∧ Below W.heap.size W w')
    (hU3 : ∀ W, Rd w0 v l g W a1 e1 → Calls Tryd.prog 74 #[.pointer (some ⟨g, 0, none⟩)] W (Turn v g (.int .i64 x) a3 e3 W))
    (hl3 : a3 ≤ l.length)
    (hByte4 : ∀ W, Rd w0 v l g W a3 e3 → Calls Tryd.prog 72 #[.pointer (some ⟨g, 0, none⟩)] W (Turn v g (.int .i64 0) a4 e4 W))
    (hl4 : a4 ≤ l.length)
    : Calls Tryd.prog 53 #[.pointer (some ⟨g, 0, none⟩)] w (InTold v g op (x) (0) (0) [] a4 e4 w) := by
  have HR := Lib.hid hr
  have HG : Hid (w.heap.size ≠ g) := by have := hr.rd.lt; show _ ≠ _; omega
  have HH1 := Lib.hid h1
  have HB0 := Lib.hid hB
  have HK := Lib.hid hK
  have HU3 := Lib.hid hU3
  have HByte4 := Lib.hid hByte4
  clear hr h1 hB hK hU3 hByte4
  go_enter Tryd.func53, Tryd.ntmps53
  go_wp2_with fail
  have HA := Lib.hid ((Below.refl w.heap.size w).alloc (Nat.le_refl _) (.cells #[.int .i64 0, .int .i64 0, .int .i64 0, .int .u64 0, .slice none 0 0] 50))
  refine (HB0.out _ (HR.out.keep HA.out)).mono ?_
  rintro en w1 ⟨rfl, hr1, hb1⟩
  have HR := Lib.hid ((HR.out.keep HA.out).turn hr1 hb1 HH1.out)
  have HO := Lib.hid ((InAt.at_ w w.heap.size 0 0 0 0 (.slice none 0 0) 50 rfl).but hb1 HG.out)
  have HB := Lib.hid (((But.refl g w).allocHigh (.cells #[.int .i64 0, .int .i64 0, .int .i64 0, .int .u64 0, .slice none 0 0] 50)).trans hb1)
  clear hr1 hb1
  go_wp2_with fail
  have HA1 := Lib.hid ((Below.refl w1.heap.size w1).alloc (Nat.le_refl _) (.cells #[.int .i64 op, .int .i64 0, .int .i64 0, .int .u64 0, .slice none 0 0] 50))
  refine (HK.out _).mono ?_
  rintro en w2 ⟨rfl, hb2⟩
  have HC := Lib.hid (HA1.out.trans (hb2.mono HA1.out.size))
  have HI := Lib.hid ((InAt.at_ w1 w1.heap.size op 0 0 0 (.slice none 0 0) 50 rfl).keep hb2)
  have HHG : Hid (w1.heap.size ≠ g) := by have := HR.out.rd.lt; show _ ≠ _; omega
  have HW0 : Hid (w0.heap.size ≤ w1.heap.size) := HR.out.below.size
  have HWW : Hid (w.heap.size ≤ w1.heap.size) := HB.out.size
  have HHO : Hid (w1.heap.size ≠ w.heap.size) := by have := HO.out.lt; show _ ≠ _; omega
  have HR := Lib.hid (HR.out.keep HC.out)
  have HO := Lib.hid (HO.out.keep HC.out)
  have HB := Lib.hid (HB.out.trans (But.of_below HC.out))
  clear hb2
  obtain ⟨i0, ic0, ic1, ic2, ic3, ic4, if0, if1, if2, if3, if4⟩ := HI.out
  go_wp2_with fail
  refine (fail_no 3 HR.out).mono ?_
  rintro en w3 ⟨rfl, hr, hb⟩
  have HR := Lib.hid (HR.out.turn hr hb HR.out.at_le)
  have HI := Lib.hid (HI.out.but hb HHG.out)
  have HO := Lib.hid (HO.out.but hb HG.out)
  have HB := Lib.hid (HB.out.trans hb)
  clear hr hb
  clear i0 ic0 ic1 ic2 ic3 ic4 if0 if1 if2 if3 if4
  obtain ⟨i0, ic0, ic1, ic2, ic3, ic4, if0, if1, if2, if3, if4⟩ := HI.out
  go_wp2_with fail
  refine (HU3.out _ HR.out).mono ?_
  rintro en w4 ⟨rfl, hr, hb⟩
  have HR := Lib.hid (HR.out.turn hr hb hl3)
  have HI := Lib.hid (HI.out.but hb HHG.out)
  have HO := Lib.hid (HO.out.but hb HG.out)
  have HB := Lib.hid (HB.out.trans hb)
  clear hr hb
  clear i0 ic0 ic1 ic2 ic3 ic4 if0 if1 if2 if3 if4
  obtain ⟨i0, ic0, ic1, ic2, ic3, ic4, if0, if1, if2, if3, if4⟩ := HI.out
  go_wp2_with fail
  have HR := Lib.hid (HR.out.far (p := ⟨w1.heap.size, 1, none⟩) HHG.out HW0.out (.int .i64 (x)))
  have HI := Lib.hid (HI.out.setA (x))
  have HO := Lib.hid (HO.out.far (p := ⟨w1.heap.size, 1, none⟩) HHO.out (.int .i64 (x)))
  have HB := Lib.hid (HB.out.setHigh (p := ⟨w1.heap.size, 1, none⟩) HWW.out (.int .i64 (x)))
  refine (HByte4.out _ HR.out).mono ?_
  rintro en w5 ⟨rfl, hr, hb⟩
  have HR := Lib.hid (HR.out.turn hr hb hl4)
  have HI := Lib.hid (HI.out.but hb HHG.out)
  have HO := Lib.hid (HO.out.but hb HG.out)
  have HB := Lib.hid (HB.out.trans hb)
  clear hr hb
  clear i0 ic0 ic1 ic2 ic3 ic4 if0 if1 if2 if3 if4
  obtain ⟨i0, ic0, ic1, ic2, ic3, ic4, if0, if1, if2, if3, if4⟩ := HI.out
  go_wp2_with fail
  refine (fail_no 3 HR.out).mono ?_
  rintro en w6 ⟨rfl, hr, hb⟩
  have HR := Lib.hid (HR.out.turn hr hb HR.out.at_le)
  have HI := Lib.hid (HI.out.but hb HHG.out)
  have HO := Lib.hid (HO.out.but hb HG.out)
  have HB := Lib.hid (HB.out.trans hb)
  clear hr hb
  clear i0 ic0 ic1 ic2 ic3 ic4 if0 if1 if2 if3 if4
  obtain ⟨i0, ic0, ic1, ic2, ic3, ic4, if0, if1, if2, if3, if4⟩ := HI.out
  obtain ⟨o0, oc0, oc1, oc2, oc3, oc4, of0, of1, of2, of3, of4⟩ := HO.out
  go_wp2_with fail
  refine bodyPost_ret (v := .agg #[.int .i64 op, .int .i64 (x), .int .i64 (0), .int .u64 (0), .slice none 0 0]) (by simp [results, Tryd.results53, go_sem, oc0, oc1, oc2, oc3, oc4]) rfl ⟨_, rfl, ownI_nil _ _, ?_, ?_⟩
  · exact (((((HR.out.rd.far (p := ⟨w.heap.size, 0, none⟩) HG.out _).far (p := ⟨w.heap.size, 1, none⟩) HG.out _).far (p := ⟨w.heap.size, 2, none⟩) HG.out _).far (p := ⟨w.heap.size, 3, none⟩) HG.out _).far (p := ⟨w.heap.size, 4, none⟩) HG.out _)
  · exact (((((HB.out.setHigh (p := ⟨w.heap.size, 0, none⟩) (Nat.le_refl _) _).setHigh (p := ⟨w.heap.size, 1, none⟩) (Nat.le_refl _) _).setHigh (p := ⟨w.heap.size, 2, none⟩) (Nat.le_refl _) _).setHigh (p := ⟨w.heap.size, 3, none⟩) (Nat.le_refl _) _).setHigh (p := ⟨w.heap.size, 4, none⟩) (Nat.le_refl _) _)
theorem ins_callbad {w0 w : World} {v : Value} {l : List Int} {g a : Nat} {e : Int} (hr : Rd w0 v l g w a e) (op e1 : Int) (a1 : Nat) (x y : Int) (a3 : Nat) (e3 : Int) (a4 : Nat) (e4 : Int) (f5 : Int)
    (h1 : a1 ≤ l.length)
    (hB : ∀ W, Rd w0 v l g W a e → Calls Tryd.prog 72 #[.pointer (some ⟨g, 0, none⟩)] W (Turn v g (.int .i64 op) a1 e1 W))
    (hK : ∀ W, Calls Tryd.prog 57 #[.int .i64 op] W fun en w' => en = .returned (.int .i64 5) ∧ Below W.heap.size W w')
    (q1 : (y != 0) = true)
    (hU3 : ∀ W, Rd w0 v l g W a1 e1 → Calls Tryd.prog 74 #[.pointer (some ⟨g, 0, none⟩)] W (Turn v g (.int .i64 x) a3 e3 W))
    (hl3 : a3 ≤ l.length)
    (hByte4 : ∀ W, Rd w0 v l g W a3 e3 → Calls Tryd.prog 72 #[.pointer (some ⟨g, 0, none⟩)] W (Turn v g (.int .i64 y) a4 e4 W))
    (hl4 : a4 ≤ l.length)
    (hF5 : ∀ W, Rd w0 v l g W a4 e4 → Calls Tryd.prog 73 #[.pointer (some ⟨g, 0, none⟩), .bool true, .int .i64 3] W (Turn v g (.tuple #[]) a4 f5 W))
    : Calls Tryd.prog 53 #[.pointer (some ⟨g, 0, none⟩)] w (InTold v g op (x) (0) (0) [] a4 f5 w) := by
  have HR := Lib.hid hr
  have HG : Hid (w.heap.size ≠ g) := by have := hr.rd.lt; show _ ≠ _; omega
  have HH1 := Lib.hid h1
  have HB0 := Lib.hid hB
  have HK := Lib.hid hK
  have HU3 := Lib.hid hU3
  have HByte4 := Lib.hid hByte4
  have HF5 := Lib.hid hF5
  clear hr h1 hB hK hU3 hByte4 hF5
  go_enter Tryd.func53, Tryd.ntmps53
  go_wp2_with fail
  have HA := Lib.hid ((Below.refl w.heap.size w).alloc (Nat.le_refl _) (.cells #[.int .i64 0, .int .i64 0, .int .i64 0, .int .u64 0, .slice none 0 0] 50))
  refine (HB0.out _ (HR.out.keep HA.out)).mono ?_
  rintro en w1 ⟨rfl, hr1, hb1⟩
  have HR := Lib.hid ((HR.out.keep HA.out).turn hr1 hb1 HH1.out)
  have HO := Lib.hid ((InAt.at_ w w.heap.size 0 0 0 0 (.slice none 0 0) 50 rfl).but hb1 HG.out)
  have HB := Lib.hid (((But.refl g w).allocHigh (.cells #[.int .i64 0, .int .i64 0, .int .i64 0, .int .u64 0, .slice none 0 0] 50)).trans hb1)
  clear hr1 hb1
  go_wp2_with fail
  have HA1 := Lib.hid ((Below.refl w1.heap.size w1).alloc (Nat.le_refl _) (.cells #[.int .i64 op, .int .i64 0, .int .i64 0, .int .u64 0, .slice none 0 0] 50))
  refine (HK.out _).mono ?_
  rintro en w2 ⟨rfl, hb2⟩
  have HC := Lib.hid (HA1.out.trans (hb2.mono HA1.out.size))
  have HI := Lib.hid ((InAt.at_ w1 w1.heap.size op 0 0 0 (.slice none 0 0) 50 rfl).keep hb2)
  have HHG : Hid (w1.heap.size ≠ g) := by have := HR.out.rd.lt; show _ ≠ _; omega
  have HW0 : Hid (w0.heap.size ≤ w1.heap.size) := HR.out.below.size
  have HWW : Hid (w.heap.size ≤ w1.heap.size) := HB.out.size
  have HHO : Hid (w1.heap.size ≠ w.heap.size) := by have := HO.out.lt; show _ ≠ _; omega
  have HR := Lib.hid (HR.out.keep HC.out)
  have HO := Lib.hid (HO.out.keep HC.out)
  have HB := Lib.hid (HB.out.trans (But.of_below HC.out))
  clear hb2
  obtain ⟨i0, ic0, ic1, ic2, ic3, ic4, if0, if1, if2, if3, if4⟩ := HI.out
  go_wp2_with fail
  refine (fail_no 3 HR.out).mono ?_
  rintro en w3 ⟨rfl, hr, hb⟩
  have HR := Lib.hid (HR.out.turn hr hb HR.out.at_le)
  have HI := Lib.hid (HI.out.but hb HHG.out)
  have HO := Lib.hid (HO.out.but hb HG.out)
  have HB := Lib.hid (HB.out.trans hb)
  clear hr hb
  clear i0 ic0 ic1 ic2 ic3 ic4 if0 if1 if2 if3 if4
  obtain ⟨i0, ic0, ic1, ic2, ic3, ic4, if0, if1, if2, if3, if4⟩ := HI.out
  go_wp2_with fail
  refine (HU3.out _ HR.out).mono ?_
  rintro en w4 ⟨rfl, hr, hb⟩
  have HR := Lib.hid (HR.out.turn hr hb hl3)
  have HI := Lib.hid (HI.out.but hb HHG.out)
  have HO := Lib.hid (HO.out.but hb HG.out)
  have HB := Lib.hid (HB.out.trans hb)
  clear hr hb
  clear i0 ic0 ic1 ic2 ic3 ic4 if0 if1 if2 if3 if4
  obtain ⟨i0, ic0, ic1, ic2, ic3, ic4, if0, if1, if2, if3, if4⟩ := HI.out
  go_wp2_with fail
  have HR := Lib.hid (HR.out.far (p := ⟨w1.heap.size, 1, none⟩) HHG.out HW0.out (.int .i64 (x)))
  have HI := Lib.hid (HI.out.setA (x))
  have HO := Lib.hid (HO.out.far (p := ⟨w1.heap.size, 1, none⟩) HHO.out (.int .i64 (x)))
  have HB := Lib.hid (HB.out.setHigh (p := ⟨w1.heap.size, 1, none⟩) HWW.out (.int .i64 (x)))
  refine (HByte4.out _ HR.out).mono ?_
  rintro en w5 ⟨rfl, hr, hb⟩
  have HR := Lib.hid (HR.out.turn hr hb hl4)
  have HI := Lib.hid (HI.out.but hb HHG.out)
  have HO := Lib.hid (HO.out.but hb HG.out)
  have HB := Lib.hid (HB.out.trans hb)
  clear hr hb
  clear i0 ic0 ic1 ic2 ic3 ic4 if0 if1 if2 if3 if4
  obtain ⟨i0, ic0, ic1, ic2, ic3, ic4, if0, if1, if2, if3, if4⟩ := HI.out
  go_wp2_with fail
  refine (HF5.out _ HR.out).mono ?_
  rintro en w6 ⟨rfl, hr, hb⟩
  have HR := Lib.hid (HR.out.turn hr hb HR.out.at_le)
  have HI := Lib.hid (HI.out.but hb HHG.out)
  have HO := Lib.hid (HO.out.but hb HG.out)
  have HB := Lib.hid (HB.out.trans hb)
  clear hr hb
  clear i0 ic0 ic1 ic2 ic3 ic4 if0 if1 if2 if3 if4
  obtain ⟨i0, ic0, ic1, ic2, ic3, ic4, if0, if1, if2, if3, if4⟩ := HI.out
  obtain ⟨o0, oc0, oc1, oc2, oc3, oc4, of0, of1, of2, of3, of4⟩ := HO.out
  go_wp2_with fail
  refine bodyPost_ret (v := .agg #[.int .i64 op, .int .i64 (x), .int .i64 (0), .int .u64 (0), .slice none 0 0]) (by simp [results, Tryd.results53, go_sem, oc0, oc1, oc2, oc3, oc4]) rfl ⟨_, rfl, ownI_nil _ _, ?_, ?_⟩
  · exact (((((HR.out.rd.far (p := ⟨w.heap.size, 0, none⟩) HG.out _).far (p := ⟨w.heap.size, 1, none⟩) HG.out _).far (p := ⟨w.heap.size, 2, none⟩) HG.out _).far (p := ⟨w.heap.size, 3, none⟩) HG.out _).far (p := ⟨w.heap.size, 4, none⟩) HG.out _)
  · exact (((((HB.out.setHigh (p := ⟨w.heap.size, 0, none⟩) (Nat.le_refl _) _).setHigh (p := ⟨w.heap.size, 1, none⟩) (Nat.le_refl _) _).setHigh (p := ⟨w.heap.size, 2, none⟩) (Nat.le_refl _) _).setHigh (p := ⟨w.heap.size, 3, none⟩) (Nat.le_refl _) _).setHigh (p := ⟨w.heap.size, 4, none⟩) (Nat.le_refl _) _)
theorem ins_mem {w0 w : World} {v : Value} {l : List Int} {g a : Nat} {e : Int} (hr : Rd w0 v l g w a e) (op e1 : Int) (a1 : Nat) (x y : Int) (a3 : Nat) (e3 : Int) (a4 : Nat) (e4 : Int)
    (h1 : a1 ≤ l.length)
    (hB : ∀ W, Rd w0 v l g W a e → Calls Tryd.prog 72 #[.pointer (some ⟨g, 0, none⟩)] W (Turn v g (.int .i64 op) a1 e1 W))
    (hK : ∀ W, Calls Tryd.prog 57 #[.int .i64 op] W fun en w' => en = .returned (.int .i64 6) ∧ Below W.heap.size W w')
    (hU3 : ∀ W, Rd w0 v l g W a1 e1 → Calls Tryd.prog 74 #[.pointer (some ⟨g, 0, none⟩)] W (Turn v g (.int .i64 x) a3 e3 W))
    (hl3 : a3 ≤ l.length)
    (hU4 : ∀ W, Rd w0 v l g W a3 e3 → Calls Tryd.prog 74 #[.pointer (some ⟨g, 0, none⟩)] W (Turn v g (.int .i64 y) a4 e4 W))
    (hl4 : a4 ≤ l.length)
    : Calls Tryd.prog 53 #[.pointer (some ⟨g, 0, none⟩)] w (InTold v g op (x) (y) (0) [] a4 e4 w) := by
  have HR := Lib.hid hr
  have HG : Hid (w.heap.size ≠ g) := by have := hr.rd.lt; show _ ≠ _; omega
  have HH1 := Lib.hid h1
  have HB0 := Lib.hid hB
  have HK := Lib.hid hK
  have HU3 := Lib.hid hU3
  have HU4 := Lib.hid hU4
  clear hr h1 hB hK hU3 hU4
  go_enter Tryd.func53, Tryd.ntmps53
  go_wp2_with fail
  have HA := Lib.hid ((Below.refl w.heap.size w).alloc (Nat.le_refl _) (.cells #[.int .i64 0, .int .i64 0, .int .i64 0, .int .u64 0, .slice none 0 0] 50))
  refine (HB0.out _ (HR.out.keep HA.out)).mono ?_
  rintro en w1 ⟨rfl, hr1, hb1⟩
  have HR := Lib.hid ((HR.out.keep HA.out).turn hr1 hb1 HH1.out)
  have HO := Lib.hid ((InAt.at_ w w.heap.size 0 0 0 0 (.slice none 0 0) 50 rfl).but hb1 HG.out)
  have HB := Lib.hid (((But.refl g w).allocHigh (.cells #[.int .i64 0, .int .i64 0, .int .i64 0, .int .u64 0, .slice none 0 0] 50)).trans hb1)
  clear hr1 hb1
  go_wp2_with fail
  have HA1 := Lib.hid ((Below.refl w1.heap.size w1).alloc (Nat.le_refl _) (.cells #[.int .i64 op, .int .i64 0, .int .i64 0, .int .u64 0, .slice none 0 0] 50))
  refine (HK.out _).mono ?_
  rintro en w2 ⟨rfl, hb2⟩
  have HC := Lib.hid (HA1.out.trans (hb2.mono HA1.out.size))
  have HI := Lib.hid ((InAt.at_ w1 w1.heap.size op 0 0 0 (.slice none 0 0) 50 rfl).keep hb2)
  have HHG : Hid (w1.heap.size ≠ g) := by have := HR.out.rd.lt; show _ ≠ _; omega
  have HW0 : Hid (w0.heap.size ≤ w1.heap.size) := HR.out.below.size
  have HWW : Hid (w.heap.size ≤ w1.heap.size) := HB.out.size
  have HHO : Hid (w1.heap.size ≠ w.heap.size) := by have := HO.out.lt; show _ ≠ _; omega
  have HR := Lib.hid (HR.out.keep HC.out)
  have HO := Lib.hid (HO.out.keep HC.out)
  have HB := Lib.hid (HB.out.trans (But.of_below HC.out))
  clear hb2
  obtain ⟨i0, ic0, ic1, ic2, ic3, ic4, if0, if1, if2, if3, if4⟩ := HI.out
  go_wp2_with fail
  refine (fail_no 3 HR.out).mono ?_
  rintro en w3 ⟨rfl, hr, hb⟩
  have HR := Lib.hid (HR.out.turn hr hb HR.out.at_le)
  have HI := Lib.hid (HI.out.but hb HHG.out)
  have HO := Lib.hid (HO.out.but hb HG.out)
  have HB := Lib.hid (HB.out.trans hb)
  clear hr hb
  clear i0 ic0 ic1 ic2 ic3 ic4 if0 if1 if2 if3 if4
  obtain ⟨i0, ic0, ic1, ic2, ic3, ic4, if0, if1, if2, if3, if4⟩ := HI.out
  go_wp2_with fail
  refine (HU3.out _ HR.out).mono ?_
  rintro en w4 ⟨rfl, hr, hb⟩
  have HR := Lib.hid (HR.out.turn hr hb hl3)
  have HI := Lib.hid (HI.out.but hb HHG.out)
  have HO := Lib.hid (HO.out.but hb HG.out)
  have HB := Lib.hid (HB.out.trans hb)
  clear hr hb
  clear i0 ic0 ic1 ic2 ic3 ic4 if0 if1 if2 if3 if4
  obtain ⟨i0, ic0, ic1, ic2, ic3, ic4, if0, if1, if2, if3, if4⟩ := HI.out
  go_wp2_with fail
  have HR := Lib.hid (HR.out.far (p := ⟨w1.heap.size, 1, none⟩) HHG.out HW0.out (.int .i64 (x)))
  have HI := Lib.hid (HI.out.setA (x))
  have HO := Lib.hid (HO.out.far (p := ⟨w1.heap.size, 1, none⟩) HHO.out (.int .i64 (x)))
  have HB := Lib.hid (HB.out.setHigh (p := ⟨w1.heap.size, 1, none⟩) HWW.out (.int .i64 (x)))
  refine (HU4.out _ HR.out).mono ?_
  rintro en w5 ⟨rfl, hr, hb⟩
  have HR := Lib.hid (HR.out.turn hr hb hl4)
  have HI := Lib.hid (HI.out.but hb HHG.out)
  have HO := Lib.hid (HO.out.but hb HG.out)
  have HB := Lib.hid (HB.out.trans hb)
  clear hr hb
  clear i0 ic0 ic1 ic2 ic3 ic4 if0 if1 if2 if3 if4
  obtain ⟨i0, ic0, ic1, ic2, ic3, ic4, if0, if1, if2, if3, if4⟩ := HI.out
  obtain ⟨o0, oc0, oc1, oc2, oc3, oc4, of0, of1, of2, of3, of4⟩ := HO.out
  have hn1 : w1.heap.size ≠ w.heap.size := HHO.out
  have hn2 : w.heap.size ≠ w1.heap.size := fun e => HHO.out e.symm
  go_wp2_with fail
  have HR := Lib.hid (HR.out.far (p := ⟨w1.heap.size, 2, none⟩) HHG.out HW0.out (.int .i64 (y)))
  have HI := Lib.hid (HI.out.setB (y))
  have HO := Lib.hid (HO.out.far (p := ⟨w1.heap.size, 2, none⟩) HHO.out (.int .i64 (y)))
  have HB := Lib.hid (HB.out.setHigh (p := ⟨w1.heap.size, 2, none⟩) HWW.out (.int .i64 (y)))
  refine bodyPost_ret (v := .agg #[.int .i64 op, .int .i64 (x), .int .i64 (y), .int .u64 (0), .slice none 0 0]) (by simp [results, Tryd.results53, go_sem, oc0, oc1, oc2, oc3, oc4]) rfl ⟨_, rfl, ownI_nil _ _, ?_, ?_⟩
  · exact (((((HR.out.rd.far (p := ⟨w.heap.size, 0, none⟩) HG.out _).far (p := ⟨w.heap.size, 1, none⟩) HG.out _).far (p := ⟨w.heap.size, 2, none⟩) HG.out _).far (p := ⟨w.heap.size, 3, none⟩) HG.out _).far (p := ⟨w.heap.size, 4, none⟩) HG.out _)
  · exact (((((HB.out.setHigh (p := ⟨w.heap.size, 0, none⟩) (Nat.le_refl _) _).setHigh (p := ⟨w.heap.size, 1, none⟩) (Nat.le_refl _) _).setHigh (p := ⟨w.heap.size, 2, none⟩) (Nat.le_refl _) _).setHigh (p := ⟨w.heap.size, 3, none⟩) (Nat.le_refl _) _).setHigh (p := ⟨w.heap.size, 4, none⟩) (Nat.le_refl _) _)
end Go.Proofs.YtdmidagcdhhlhaaDoor.Ins

/- The document's reader: the next instruction: C2. -/
namespace Go.Proofs.YtdmidagcdhhlhaaDoor.Ins
open Go.RowKit Ints Typ
set_option maxRecDepth 100000
set_option maxHeartbeats 2000000

theorem ins_mop0 {w0 w : World} {v : Value} {l : List Int} {g a : Nat} {e : Int} (hr : Rd w0 v l g w a e) (op e1 : Int) (a1 : Nat) (a3 : Nat) (e3 : Int)
    (h1 : a1 ≤ l.length)
    (hB : ∀ W, Rd w0 v l g W a e → Calls Tryd.prog 72 #[.pointer (some ⟨g, 0, none⟩)] W (Turn v g (.int .i64 op) a1 e1 W))
    (hK : ∀ W, Calls Tryd.prog 57 #[.int .i64 op] W fun en w' => en = .returned (.int .i64 7) ∧ Below W.heap.size W w')
    (hByte3 : ∀ W, Rd w0 v l g W a1 e1 → Calls Tryd.prog 72 #[.pointer (some ⟨g, 0, none⟩)] W (Turn v g (.int .i64 0) a3 e3 W))
    (hl3 : a3 ≤ l.length)
    : Calls Tryd.prog 53 #[.pointer (some ⟨g, 0, none⟩)] w (InTold v g op (0) (0) (0) [] a3 e3 w) := by
  have HR := Lib.hid hr
  have HG : Hid (w.heap.size ≠ g) := by have := hr.rd.lt; show _ ≠ _; omega
  have HH1 := Lib.hid h1
  have HB0 := Lib.hid hB
  have HK := Lib.hid hK
  have HByte3 := Lib.hid hByte3
  clear hr h1 hB hK hByte3
  go_enter Tryd.func53, Tryd.ntmps53
  go_wp2_with fail
  have HA := Lib.hid ((Below.refl w.heap.size w).alloc (Nat.le_refl _) (.cells #[.int .i64 0, .int .i64 0, .int .i64 0, .int .u64 0, .slice none 0 0] 50))
  refine (HB0.out _ (HR.out.keep HA.out)).mono ?_
  rintro en w1 ⟨rfl, hr1, hb1⟩
  have HR := Lib.hid ((HR.out.keep HA.out).turn hr1 hb1 HH1.out)
  have HO := Lib.hid ((InAt.at_ w w.heap.size 0 0 0 0 (.slice none 0 0) 50 rfl).but hb1 HG.out)
  have HB := Lib.hid (((But.refl g w).allocHigh (.cells #[.int .i64 0, .int .i64 0, .int .i64 0, .int .u64 0, .slice none 0 0] 50)).trans hb1)
  clear hr1 hb1
  go_wp2_with fail
  have HA1 := Lib.hid ((Below.refl w1.heap.size w1).alloc (Nat.le_refl _) (.cells #[.int .i64 op, .int .i64 0, .int .i64 0, .int .u64 0, .slice none 0 0] 50))
  refine (HK.out _).mono ?_
  rintro en w2 ⟨rfl, hb2⟩
  have HC := Lib.hid (HA1.out.trans (hb2.mono HA1.out.size))
  have HI := Lib.hid ((InAt.at_ w1 w1.heap.size op 0 0 0 (.slice none 0 0) 50 rfl).keep hb2)
  have HHG : Hid (w1.heap.size ≠ g) := by have := HR.out.rd.lt; show _ ≠ _; omega
  have HW0 : Hid (w0.heap.size ≤ w1.heap.size) := HR.out.below.size
  have HWW : Hid (w.heap.size ≤ w1.heap.size) := HB.out.size
  have HHO : Hid (w1.heap.size ≠ w.heap.size) := by have := HO.out.lt; show _ ≠ _; omega
  have HR := Lib.hid (HR.out.keep HC.out)
  have HO := Lib.hid (HO.out.keep HC.out)
  have HB := Lib.hid (HB.out.trans (But.of_below HC.out))
  clear hb2
  obtain ⟨i0, ic0, ic1, ic2, ic3, ic4, if0, if1, if2, if3, if4⟩ := HI.out
  go_wp2_with fail
  refine (fail_no 3 HR.out).mono ?_
  rintro en w3 ⟨rfl, hr, hb⟩
  have HR := Lib.hid (HR.out.turn hr hb HR.out.at_le)
  have HI := Lib.hid (HI.out.but hb HHG.out)
  have HO := Lib.hid (HO.out.but hb HG.out)
  have HB := Lib.hid (HB.out.trans hb)
  clear hr hb
  clear i0 ic0 ic1 ic2 ic3 ic4 if0 if1 if2 if3 if4
  obtain ⟨i0, ic0, ic1, ic2, ic3, ic4, if0, if1, if2, if3, if4⟩ := HI.out
  go_wp2_with fail
  refine (HByte3.out _ HR.out).mono ?_
  rintro en w4 ⟨rfl, hr, hb⟩
  have HR := Lib.hid (HR.out.turn hr hb hl3)
  have HI := Lib.hid (HI.out.but hb HHG.out)
  have HO := Lib.hid (HO.out.but hb HG.out)
  have HB := Lib.hid (HB.out.trans hb)
  clear hr hb
  clear i0 ic0 ic1 ic2 ic3 ic4 if0 if1 if2 if3 if4
  obtain ⟨i0, ic0, ic1, ic2, ic3, ic4, if0, if1, if2, if3, if4⟩ := HI.out
  go_wp2_with fail
  refine (fail_no 3 HR.out).mono ?_
  rintro en w5 ⟨rfl, hr, hb⟩
  have HR := Lib.hid (HR.out.turn hr hb HR.out.at_le)
  have HI := Lib.hid (HI.out.but hb HHG.out)
  have HO := Lib.hid (HO.out.but hb HG.out)
  have HB := Lib.hid (HB.out.trans hb)
  clear hr hb
  clear i0 ic0 ic1 ic2 ic3 ic4 if0 if1 if2 if3 if4
  obtain ⟨i0, ic0, ic1, ic2, ic3, ic4, if0, if1, if2, if3, if4⟩ := HI.out
  obtain ⟨o0, oc0, oc1, oc2, oc3, oc4, of0, of1, of2, of3, of4⟩ := HO.out
  go_wp2_with fail
  refine bodyPost_ret (v := .agg #[.int .i64 op, .int .i64 (0), .int .i64 (0), .int .u64 (0), .slice none 0 0]) (by simp [results, Tryd.results53, go_sem, oc0, oc1, oc2, oc3, oc4]) rfl ⟨_, rfl, ownI_nil _ _, ?_, ?_⟩
  · exact (((((HR.out.rd.far (p := ⟨w.heap.size, 0, none⟩) HG.out _).far (p := ⟨w.heap.size, 1, none⟩) HG.out _).far (p := ⟨w.heap.size, 2, none⟩) HG.out _).far (p := ⟨w.heap.size, 3, none⟩) HG.out _).far (p := ⟨w.heap.size, 4, none⟩) HG.out _)
  · exact (((((HB.out.setHigh (p := ⟨w.heap.size, 0, none⟩) (Nat.le_refl _) _).setHigh (p := ⟨w.heap.size, 1, none⟩) (Nat.le_refl _) _).setHigh (p := ⟨w.heap.size, 2, none⟩) (Nat.le_refl _) _).setHigh (p := ⟨w.heap.size, 3, none⟩) (Nat.le_refl _) _).setHigh (p := ⟨w.heap.size, 4, none⟩) (Nat.le_refl _) _)
theorem ins_mopbad {w0 w : World} {v : Value} {l : List Int} {g a : Nat} {e : Int} (hr : Rd w0 v l g w a e) (op e1 : Int) (a1 : Nat) (y : Int) (a3 : Nat) (e3 : Int) (f4 : Int)
    (h1 : a1 ≤ l.length)
    (hB : ∀ W, Rd w0 v l g W a e → Calls Tryd.prog 72 #[.pointer (some ⟨g, 0, none⟩)] W (Turn v g (.int .i64 op) a1 e1 W))
    (hK : ∀ W, Calls Tryd.prog 57 #[.int .i64 op] W fun en w' => en = .returned (.int .i64 7) ∧ Below W.heap.size W w')
    (q1 : (y != 0) = true)
    (hByte3 : ∀ W, Rd w0 v l g W a1 e1 → Calls Tryd.prog 72 #[.pointer (some ⟨g, 0, none⟩)] W (Turn v g (.int .i64 y) a3 e3 W))
    (hl3 : a3 ≤ l.length)
    (hF4 : ∀ W, Rd w0 v l g W a3 e3 → Calls Tryd.prog 73 #[.pointer (some ⟨g, 0, none⟩), .bool true, .int .i64 3] W (Turn v g (.tuple #[]) a3 f4 W))
    : Calls Tryd.prog 53 #[.pointer (some ⟨g, 0, none⟩)] w (InTold v g op (0) (0) (0) [] a3 f4 w) := by
  have HR := Lib.hid hr
  have HG : Hid (w.heap.size ≠ g) := by have := hr.rd.lt; show _ ≠ _; omega
  have HH1 := Lib.hid h1
  have HB0 := Lib.hid hB
  have HK := Lib.hid hK
  have HByte3 := Lib.hid hByte3
  have HF4 := Lib.hid hF4
  clear hr h1 hB hK hByte3 hF4
  go_enter Tryd.func53, Tryd.ntmps53
  go_wp2_with fail
  have HA := Lib.hid ((Below.refl w.heap.size w).alloc (Nat.le_refl _) (.cells #[.int .i64 0, .int .i64 0, .int .i64 0, .int .u64 0, .slice none 0 0] 50))
  refine (HB0.out _ (HR.out.keep HA.out)).mono ?_
  rintro en w1 ⟨rfl, hr1, hb1⟩
  have HR := Lib.hid ((HR.out.keep HA.out).turn hr1 hb1 HH1.out)
  have HO := Lib.hid ((InAt.at_ w w.heap.size 0 0 0 0 (.slice none 0 0) 50 rfl).but hb1 HG.out)
  have HB := Lib.hid (((But.refl g w).allocHigh (.cells #[.int .i64 0, .int .i64 0, .int .i64 0, .int .u64 0, .slice none 0 0] 50)).trans hb1)
  clear hr1 hb1
  go_wp2_with fail
  have HA1 := Lib.hid ((Below.refl w1.heap.size w1).alloc (Nat.le_refl _) (.cells #[.int .i64 op, .int .i64 0, .int .i64 0, .int .u64 0, .slice none 0 0] 50))
  refine (HK.out _).mono ?_
  rintro en w2 ⟨rfl, hb2⟩
  have HC := Lib.hid (HA1.out.trans (hb2.mono HA1.out.size))
  have HI := Lib.hid ((InAt.at_ w1 w1.heap.size op 0 0 0 (.slice none 0 0) 50 rfl).keep hb2)
  have HHG : Hid (w1.heap.size ≠ g) := by have := HR.out.rd.lt; show _ ≠ _; omega
  have HW0 : Hid (w0.heap.size ≤ w1.heap.size) := HR.out.below.size
  have HWW : Hid (w.heap.size ≤ w1.heap.size) := HB.out.size
  have HHO : Hid (w1.heap.size ≠ w.heap.size) := by have := HO.out.lt; show _ ≠ _; omega
  have HR := Lib.hid (HR.out.keep HC.out)
  have HO := Lib.hid (HO.out.keep HC.out)
  have HB := Lib.hid (HB.out.trans (But.of_below HC.out))
  clear hb2
  obtain ⟨i0, ic0, ic1, ic2, ic3, ic4, if0, if1, if2, if3, if4⟩ := HI.out
  go_wp2_with fail
  refine (fail_no 3 HR.out).mono ?_
  rintro en w3 ⟨rfl, hr, hb⟩
  have HR := Lib.hid (HR.out.turn hr hb HR.out.at_le)
  have HI := Lib.hid (HI.out.but hb HHG.out)
  have HO := Lib.hid (HO.out.but hb HG.out)
  have HB := Lib.hid (HB.out.trans hb)
  clear hr hb
  clear i0 ic0 ic1 ic2 ic3 ic4 if0 if1 if2 if3 if4
  obtain ⟨i0, ic0, ic1, ic2, ic3, ic4, if0, if1, if2, if3, if4⟩ := HI.out
  go_wp2_with fail
  refine (HByte3.out _ HR.out).mono ?_
  rintro en w4 ⟨rfl, hr, hb⟩
  have HR := Lib.hid (HR.out.turn hr hb hl3)
  have HI := Lib.hid (HI.out.but hb HHG.out)
  have HO := Lib.hid (HO.out.but hb HG.out)
  have HB := Lib.hid (HB.out.trans hb)
  clear hr hb
  clear i0 ic0 ic1 ic2 ic3 ic4 if0 if1 if2 if3 if4
  obtain ⟨i0, ic0, ic1, ic2, ic3, ic4, if0, if1, if2, if3, if4⟩ := HI.out
  go_wp2_with fail
  refine (HF4.out _ HR.out).mono ?_
  rintro en w5 ⟨rfl, hr, hb⟩
  have HR := Lib.hid (HR.out.turn hr hb HR.out.at_le)
  have HI := Lib.hid (HI.out.but hb HHG.out)
  have HO := Lib.hid (HO.out.but hb HG.out)
  have HB := Lib.hid (HB.out.trans hb)
  clear hr hb
  clear i0 ic0 ic1 ic2 ic3 ic4 if0 if1 if2 if3 if4
  obtain ⟨i0, ic0, ic1, ic2, ic3, ic4, if0, if1, if2, if3, if4⟩ := HI.out
  obtain ⟨o0, oc0, oc1, oc2, oc3, oc4, of0, of1, of2, of3, of4⟩ := HO.out
  go_wp2_with fail
  refine bodyPost_ret (v := .agg #[.int .i64 op, .int .i64 (0), .int .i64 (0), .int .u64 (0), .slice none 0 0]) (by simp [results, Tryd.results53, go_sem, oc0, oc1, oc2, oc3, oc4]) rfl ⟨_, rfl, ownI_nil _ _, ?_, ?_⟩
  · exact (((((HR.out.rd.far (p := ⟨w.heap.size, 0, none⟩) HG.out _).far (p := ⟨w.heap.size, 1, none⟩) HG.out _).far (p := ⟨w.heap.size, 2, none⟩) HG.out _).far (p := ⟨w.heap.size, 3, none⟩) HG.out _).far (p := ⟨w.heap.size, 4, none⟩) HG.out _)
  · exact (((((HB.out.setHigh (p := ⟨w.heap.size, 0, none⟩) (Nat.le_refl _) _).setHigh (p := ⟨w.heap.size, 1, none⟩) (Nat.le_refl _) _).setHigh (p := ⟨w.heap.size, 2, none⟩) (Nat.le_refl _) _).setHigh (p := ⟨w.heap.size, 3, none⟩) (Nat.le_refl _) _).setHigh (p := ⟨w.heap.size, 4, none⟩) (Nat.le_refl _) _)
end Go.Proofs.YtdmidagcdhhlhaaDoor.Ins

/- The document's reader: the next instruction: D. -/
namespace Go.Proofs.YtdmidagcdhhlhaaDoor.Ins
open Go.RowKit Ints Typ
set_option maxRecDepth 100000
set_option maxHeartbeats 2000000

theorem ins_c32 {w0 w : World} {v : Value} {l : List Int} {g a : Nat} {e : Int} (hr : Rd w0 v l g w a e) (op e1 : Int) (a1 : Nat) (x k : Int) (a3 : Nat) (e3 : Int)
    (h1 : a1 ≤ l.length)
    (hB : ∀ W, Rd w0 v l g W a e → Calls Tryd.prog 72 #[.pointer (some ⟨g, 0, none⟩)] W (Turn v g (.int .i64 op) a1 e1 W))
    (hK : ∀ W, Calls Tryd.prog 57 #[.int .i64 op] W fun en w' => en = .returned (.int .i64 8) ∧ Below W.heap.size W w')
    (hS3 : ∀ W, Rd w0 v l g W a1 e1 → Calls Tryd.prog 76 #[.pointer (some ⟨g, 0, none⟩), .int .i64 32] W (Turn v g (.int .i64 x) a3 e3 W))
    (hl3 : a3 ≤ l.length)
    (hV : ∀ W, Calls Tryd.prog 75 #[.int .u8 127, .int .i64 x] W fun en w' => en = .returned (.int .u64 k) ∧ W = w')
    : Calls Tryd.prog 53 #[.pointer (some ⟨g, 0, none⟩)] w (InTold v g op (0) (0) (k) [] a3 e3 w) := by
  have HR := Lib.hid hr
  have HG : Hid (w.heap.size ≠ g) := by have := hr.rd.lt; show _ ≠ _; omega
  have HH1 := Lib.hid h1
  have HB0 := Lib.hid hB
  have HK := Lib.hid hK
  have HS3 := Lib.hid hS3
  have HV := Lib.hid hV
  clear hr h1 hB hK hS3 hV
  go_enter Tryd.func53, Tryd.ntmps53
  go_wp2_with fail
  have HA := Lib.hid ((Below.refl w.heap.size w).alloc (Nat.le_refl _) (.cells #[.int .i64 0, .int .i64 0, .int .i64 0, .int .u64 0, .slice none 0 0] 50))
  refine (HB0.out _ (HR.out.keep HA.out)).mono ?_
  rintro en w1 ⟨rfl, hr1, hb1⟩
  have HR := Lib.hid ((HR.out.keep HA.out).turn hr1 hb1 HH1.out)
  have HO := Lib.hid ((InAt.at_ w w.heap.size 0 0 0 0 (.slice none 0 0) 50 rfl).but hb1 HG.out)
  have HB := Lib.hid (((But.refl g w).allocHigh (.cells #[.int .i64 0, .int .i64 0, .int .i64 0, .int .u64 0, .slice none 0 0] 50)).trans hb1)
  clear hr1 hb1
  go_wp2_with fail
  have HA1 := Lib.hid ((Below.refl w1.heap.size w1).alloc (Nat.le_refl _) (.cells #[.int .i64 op, .int .i64 0, .int .i64 0, .int .u64 0, .slice none 0 0] 50))
  refine (HK.out _).mono ?_
  rintro en w2 ⟨rfl, hb2⟩
  have HC := Lib.hid (HA1.out.trans (hb2.mono HA1.out.size))
  have HI := Lib.hid ((InAt.at_ w1 w1.heap.size op 0 0 0 (.slice none 0 0) 50 rfl).keep hb2)
  have HHG : Hid (w1.heap.size ≠ g) := by have := HR.out.rd.lt; show _ ≠ _; omega
  have HW0 : Hid (w0.heap.size ≤ w1.heap.size) := HR.out.below.size
  have HWW : Hid (w.heap.size ≤ w1.heap.size) := HB.out.size
  have HHO : Hid (w1.heap.size ≠ w.heap.size) := by have := HO.out.lt; show _ ≠ _; omega
  have HR := Lib.hid (HR.out.keep HC.out)
  have HO := Lib.hid (HO.out.keep HC.out)
  have HB := Lib.hid (HB.out.trans (But.of_below HC.out))
  clear hb2
  obtain ⟨i0, ic0, ic1, ic2, ic3, ic4, if0, if1, if2, if3, if4⟩ := HI.out
  go_wp2_with fail
  refine (fail_no 3 HR.out).mono ?_
  rintro en w3 ⟨rfl, hr, hb⟩
  have HR := Lib.hid (HR.out.turn hr hb HR.out.at_le)
  have HI := Lib.hid (HI.out.but hb HHG.out)
  have HO := Lib.hid (HO.out.but hb HG.out)
  have HB := Lib.hid (HB.out.trans hb)
  clear hr hb
  clear i0 ic0 ic1 ic2 ic3 ic4 if0 if1 if2 if3 if4
  obtain ⟨i0, ic0, ic1, ic2, ic3, ic4, if0, if1, if2, if3, if4⟩ := HI.out
  go_wp2_with fail
  refine (HS3.out _ HR.out).mono ?_
  rintro en w4 ⟨rfl, hr, hb⟩
  have HR := Lib.hid (HR.out.turn hr hb hl3)
  have HI := Lib.hid (HI.out.but hb HHG.out)
  have HO := Lib.hid (HO.out.but hb HG.out)
  have HB := Lib.hid (HB.out.trans hb)
  clear hr hb
  clear i0 ic0 ic1 ic2 ic3 ic4 if0 if1 if2 if3 if4
  obtain ⟨i0, ic0, ic1, ic2, ic3, ic4, if0, if1, if2, if3, if4⟩ := HI.out
  go_wp2_with fail
  refine (HV.out _).mono ?_
  rintro en wv ⟨rfl, rfl⟩
  clear i0 ic0 ic1 ic2 ic3 ic4 if0 if1 if2 if3 if4
  obtain ⟨i0, ic0, ic1, ic2, ic3, ic4, if0, if1, if2, if3, if4⟩ := HI.out
  obtain ⟨o0, oc0, oc1, oc2, oc3, oc4, of0, of1, of2, of3, of4⟩ := HO.out
  have hn1 : w1.heap.size ≠ w.heap.size := HHO.out
  have hn2 : w.heap.size ≠ w1.heap.size := fun e => HHO.out e.symm
  go_wp2_with fail
  have HR := Lib.hid (HR.out.far (p := ⟨w1.heap.size, 3, none⟩) HHG.out HW0.out (.int .u64 (k)))
  have HI := Lib.hid (HI.out.setK (k))
  have HO := Lib.hid (HO.out.far (p := ⟨w1.heap.size, 3, none⟩) HHO.out (.int .u64 (k)))
  have HB := Lib.hid (HB.out.setHigh (p := ⟨w1.heap.size, 3, none⟩) HWW.out (.int .u64 (k)))
  refine bodyPost_ret (v := .agg #[.int .i64 op, .int .i64 (0), .int .i64 (0), .int .u64 (k), .slice none 0 0]) (by simp [results, Tryd.results53, go_sem, oc0, oc1, oc2, oc3, oc4]) rfl ⟨_, rfl, ownI_nil _ _, ?_, ?_⟩
  · exact (((((HR.out.rd.far (p := ⟨w.heap.size, 0, none⟩) HG.out _).far (p := ⟨w.heap.size, 1, none⟩) HG.out _).far (p := ⟨w.heap.size, 2, none⟩) HG.out _).far (p := ⟨w.heap.size, 3, none⟩) HG.out _).far (p := ⟨w.heap.size, 4, none⟩) HG.out _)
  · exact (((((HB.out.setHigh (p := ⟨w.heap.size, 0, none⟩) (Nat.le_refl _) _).setHigh (p := ⟨w.heap.size, 1, none⟩) (Nat.le_refl _) _).setHigh (p := ⟨w.heap.size, 2, none⟩) (Nat.le_refl _) _).setHigh (p := ⟨w.heap.size, 3, none⟩) (Nat.le_refl _) _).setHigh (p := ⟨w.heap.size, 4, none⟩) (Nat.le_refl _) _)
theorem ins_c64 {w0 w : World} {v : Value} {l : List Int} {g a : Nat} {e : Int} (hr : Rd w0 v l g w a e) (op e1 : Int) (a1 : Nat) (x : Int) (a3 : Nat) (e3 : Int)
    (h1 : a1 ≤ l.length)
    (hB : ∀ W, Rd w0 v l g W a e → Calls Tryd.prog 72 #[.pointer (some ⟨g, 0, none⟩)] W (Turn v g (.int .i64 op) a1 e1 W))
    (hK : ∀ W, Calls Tryd.prog 57 #[.int .i64 op] W fun en w' => en = .returned (.int .i64 9) ∧ Below W.heap.size W w')
    (hS3 : ∀ W, Rd w0 v l g W a1 e1 → Calls Tryd.prog 76 #[.pointer (some ⟨g, 0, none⟩), .int .i64 64] W (Turn v g (.int .i64 x) a3 e3 W))
    (hl3 : a3 ≤ l.length)
    : Calls Tryd.prog 53 #[.pointer (some ⟨g, 0, none⟩)] w (InTold v g op (0) (0) (IntKind.u64.wrap x) [] a3 e3 w) := by
  have HR := Lib.hid hr
  have HG : Hid (w.heap.size ≠ g) := by have := hr.rd.lt; show _ ≠ _; omega
  have HH1 := Lib.hid h1
  have HB0 := Lib.hid hB
  have HK := Lib.hid hK
  have HS3 := Lib.hid hS3
  clear hr h1 hB hK hS3
  go_enter Tryd.func53, Tryd.ntmps53
  go_wp2_with fail
  have HA := Lib.hid ((Below.refl w.heap.size w).alloc (Nat.le_refl _) (.cells #[.int .i64 0, .int .i64 0, .int .i64 0, .int .u64 0, .slice none 0 0] 50))
  refine (HB0.out _ (HR.out.keep HA.out)).mono ?_
  rintro en w1 ⟨rfl, hr1, hb1⟩
  have HR := Lib.hid ((HR.out.keep HA.out).turn hr1 hb1 HH1.out)
  have HO := Lib.hid ((InAt.at_ w w.heap.size 0 0 0 0 (.slice none 0 0) 50 rfl).but hb1 HG.out)
  have HB := Lib.hid (((But.refl g w).allocHigh (.cells #[.int .i64 0, .int .i64 0, .int .i64 0, .int .u64 0, .slice none 0 0] 50)).trans hb1)
  clear hr1 hb1
  go_wp2_with fail
  have HA1 := Lib.hid ((Below.refl w1.heap.size w1).alloc (Nat.le_refl _) (.cells #[.int .i64 op, .int .i64 0, .int .i64 0, .int .u64 0, .slice none 0 0] 50))
  refine (HK.out _).mono ?_
  rintro en w2 ⟨rfl, hb2⟩
  have HC := Lib.hid (HA1.out.trans (hb2.mono HA1.out.size))
  have HI := Lib.hid ((InAt.at_ w1 w1.heap.size op 0 0 0 (.slice none 0 0) 50 rfl).keep hb2)
  have HHG : Hid (w1.heap.size ≠ g) := by have := HR.out.rd.lt; show _ ≠ _; omega
  have HW0 : Hid (w0.heap.size ≤ w1.heap.size) := HR.out.below.size
  have HWW : Hid (w.heap.size ≤ w1.heap.size) := HB.out.size
  have HHO : Hid (w1.heap.size ≠ w.heap.size) := by have := HO.out.lt; show _ ≠ _; omega
  have HR := Lib.hid (HR.out.keep HC.out)
  have HO := Lib.hid (HO.out.keep HC.out)
  have HB := Lib.hid (HB.out.trans (But.of_below HC.out))
  clear hb2
  obtain ⟨i0, ic0, ic1, ic2, ic3, ic4, if0, if1, if2, if3, if4⟩ := HI.out
  go_wp2_with fail
  refine (fail_no 3 HR.out).mono ?_
  rintro en w3 ⟨rfl, hr, hb⟩
  have HR := Lib.hid (HR.out.turn hr hb HR.out.at_le)
  have HI := Lib.hid (HI.out.but hb HHG.out)
  have HO := Lib.hid (HO.out.but hb HG.out)
  have HB := Lib.hid (HB.out.trans hb)
  clear hr hb
  clear i0 ic0 ic1 ic2 ic3 ic4 if0 if1 if2 if3 if4
  obtain ⟨i0, ic0, ic1, ic2, ic3, ic4, if0, if1, if2, if3, if4⟩ := HI.out
  go_wp2_with fail
  refine (HS3.out _ HR.out).mono ?_
  rintro en w4 ⟨rfl, hr, hb⟩
  have HR := Lib.hid (HR.out.turn hr hb hl3)
  have HI := Lib.hid (HI.out.but hb HHG.out)
  have HO := Lib.hid (HO.out.but hb HG.out)
  have HB := Lib.hid (HB.out.trans hb)
  clear hr hb
  clear i0 ic0 ic1 ic2 ic3 ic4 if0 if1 if2 if3 if4
  obtain ⟨i0, ic0, ic1, ic2, ic3, ic4, if0, if1, if2, if3, if4⟩ := HI.out
  obtain ⟨o0, oc0, oc1, oc2, oc3, oc4, of0, of1, of2, of3, of4⟩ := HO.out
  have hn1 : w1.heap.size ≠ w.heap.size := HHO.out
  have hn2 : w.heap.size ≠ w1.heap.size := fun e => HHO.out e.symm
  go_wp2_with fail
  have HR := Lib.hid (HR.out.far (p := ⟨w1.heap.size, 3, none⟩) HHG.out HW0.out (.int .u64 (IntKind.u64.wrap x)))
  have HI := Lib.hid (HI.out.setK (IntKind.u64.wrap x))
  have HO := Lib.hid (HO.out.far (p := ⟨w1.heap.size, 3, none⟩) HHO.out (.int .u64 (IntKind.u64.wrap x)))
  have HB := Lib.hid (HB.out.setHigh (p := ⟨w1.heap.size, 3, none⟩) HWW.out (.int .u64 (IntKind.u64.wrap x)))
  refine bodyPost_ret (v := .agg #[.int .i64 op, .int .i64 (0), .int .i64 (0), .int .u64 (IntKind.u64.wrap x), .slice none 0 0]) (by simp [results, Tryd.results53, go_sem, oc0, oc1, oc2, oc3, oc4]) rfl ⟨_, rfl, ownI_nil _ _, ?_, ?_⟩
  · exact (((((HR.out.rd.far (p := ⟨w.heap.size, 0, none⟩) HG.out _).far (p := ⟨w.heap.size, 1, none⟩) HG.out _).far (p := ⟨w.heap.size, 2, none⟩) HG.out _).far (p := ⟨w.heap.size, 3, none⟩) HG.out _).far (p := ⟨w.heap.size, 4, none⟩) HG.out _)
  · exact (((((HB.out.setHigh (p := ⟨w.heap.size, 0, none⟩) (Nat.le_refl _) _).setHigh (p := ⟨w.heap.size, 1, none⟩) (Nat.le_refl _) _).setHigh (p := ⟨w.heap.size, 2, none⟩) (Nat.le_refl _) _).setHigh (p := ⟨w.heap.size, 3, none⟩) (Nat.le_refl _) _).setHigh (p := ⟨w.heap.size, 4, none⟩) (Nat.le_refl _) _)
end Go.Proofs.YtdmidagcdhhlhaaDoor.Ins

/- The document's reader: a BrTable. -/
namespace Go.Proofs.YtdmidagcdhhlhaaDoor.Ins
open Go.RowKit Ints Typ
set_option maxRecDepth 100000
set_option maxHeartbeats 2000000

/-- The labels. -/
def lb (l : List Int) : Nat → List Int → Nat → Int → List Int × Nat × Int
  | 0, L, a, e => (L, a, e)
  | n + 1, L, a, e => if e = 0 then lb l n (L ++ [(ru l a e).1]) (ru l a e).2.1 (ru l a e).2.2 else (L, a, e)
theorem lb_err {l : List Int} {n : Nat} {L : List Int} {a : Nat} {e : Int} (h : e ≠ 0) : lb l n L a e = (L, a, e) := by
  cases n
  · rfl
  · exact if_neg h
theorem lb_le {l : List Int} : ∀ (n : Nat) (L : List Int) (a : Nat) (e : Int), a ≤ l.length → (lb l n L a e).2.1 ≤ l.length
  | 0, _, _, _, h => h
  | n + 1, L, a, e, h => by
    show (if e = 0 then lb l n (L ++ [(ru l a e).1]) (ru l a e).2.1 (ru l a e).2.2 else (L, a, e)).2.1 ≤ l.length
    split
    · exact lb_le n _ _ _ (ru_le h)
    · exact h
theorem OwnI.at_ {w w' : World} {B : Nat} {v : Value} {l : List Int} (h : OwnI w B v l) (hk : ∀ k, B ≤ k → k < w.heap.size → w'.heap[k]? = w.heap[k]?) : OwnI w' B v l := by
  obtain ⟨h1, h2⟩ := h
  refine ⟨h1, ?_⟩
  rcases h2 with h2 | ⟨g, cap, cur, e1, e2, e3, e4⟩
  · exact .inl h2
  · exact .inr ⟨g, cap, cur, e1, e2, (hk g e2 (Array.getElem?_eq_some_iff.1 e3).1).trans e3, e4⟩
theorem OwnI.mono {w : World} {B B' : Nat} {v : Value} {l : List Int} (h : OwnI w B v l) (hB : B' ≤ B) : OwnI w B' v l := by
  obtain ⟨h1, h2⟩ := h
  refine ⟨h1, ?_⟩
  rcases h2 with h2 | ⟨g, cap, cur, e1, e2, e3⟩
  · exact .inl h2
  · exact .inr ⟨g, cap, cur, e1, Nat.le_trans hB e2, e3⟩
theorem OwnI.form {w : World} {B : Nat} {v : Value} {l : List Int} (h : OwnI w B v l) : ∃ P c, v = .slice P l.length c := by
  rcases h.2 with ⟨e, hn⟩ | ⟨p, c, _, e, _⟩
  · exact ⟨none, 0, by rw [e, hn]⟩
  · exact ⟨_, c, e⟩
theorem OwnI.but {w w' : World} {g B : Nat} {v : Value} {l : List Int} (h : OwnI w B v l) (hb : But g w w') (hg : g < B) : OwnI w' B v l := h.at_ fun k hk hl => hb.block k hl (by omega)
theorem OwnI.far {w : World} {B : Nat} {v : Value} {l : List Int} (h : OwnI w B v l) {p : Addr} (hp : p.block < B) (u : Value) : OwnI (w.setCell p u) B v l := h.at_ fun k hk _ => Below.heap_setCell _ _ _ _ (by omega)
theorem OwnI.keep {w w' : World} {B : Nat} {v : Value} {l : List Int} (h : OwnI w B v l) (hb : Below w.heap.size w w') : OwnI w' B v l := h.at_ fun k _ hl => hb.block k hl
theorem vi_length (l : List Int) : (vi l).length = l.length := by simp [vi]
theorem RdAt.kept {w w' : World} {g B : Nat} {v : Value} {a e : Int} (h : RdAt w g v a e) (hb : Below B w w') (hg : g < B) : RdAt w' g v a e :=
  ⟨Nat.lt_of_lt_of_le h.lt hb.size, by rw [hb.cell (p := ⟨g, 0, none⟩) hg]; exact h.c0, by rw [hb.cell (p := ⟨g, 1, none⟩) hg]; exact h.c1, by rw [hb.cell (p := ⟨g, 2, none⟩) hg]; exact h.c2,
    by rw [hb.frozen (p := ⟨g, 0, none⟩) hg]; exact h.f0, by rw [hb.frozen (p := ⟨g, 1, none⟩) hg]; exact h.f1, by rw [hb.frozen (p := ⟨g, 2, none⟩) hg]; exact h.f2⟩
theorem Rd.kept {w0 w w' : World} {v : Value} {l : List Int} {g a B : Nat} {e : Int} (h : Rd w0 v l g w a e) (hb : Below B w w') (hg : g < B) (h0 : w0.heap.size ≤ B) : Rd w0 v l g w' a e :=
  ⟨h.sl, h.by_, h.len, h.at_le, h.base, h.below.trans (hb.mono h0), h.rd.kept hb hg⟩
theorem InAt.kept {w w' : World} {h B : Nat} {op A B' K : Int} {o : Value} (x : InAt w h op A B' K o) (hb : Below B w w') (hh : h < B) : InAt w' h op A B' K o := by
  obtain ⟨h0, c0, c1, c2, c3, c4, f0, f1, f2, f3, f4⟩ := x
  have key : ∀ i, w'.cell? ⟨h, i, none⟩ = w.cell? ⟨h, i, none⟩ := fun i => hb.cell (p := ⟨h, i, none⟩) hh
  have fey : ∀ i, w'.frozen? ⟨h, i, none⟩ = w.frozen? ⟨h, i, none⟩ := fun i => hb.frozen (p := ⟨h, i, none⟩) hh
  exact ⟨Nat.lt_of_lt_of_le h0 hb.size, by rw [key]; exact c0, by rw [key]; exact c1, by rw [key]; exact c2, by rw [key]; exact c3, by rw [key]; exact c4, by rw [fey]; exact f0, by rw [fey]; exact f1, by rw [fey]; exact f2, by rw [fey]; exact f3, by rw [fey]; exact f4⟩
theorem But.kept {g B : Nat} {a w w' : World} (h : But g a w) (hb : Below B w w') (hB : a.heap.size ≤ B) : But g a w' := h.trans' hb.size (fun k hk => hb.block k (by omega)) hb.os hb.tape hb.output
theorem drewB (w : World) : Below w.heap.size w w.drew := ⟨rfl, rfl, rfl, Nat.le_refl _, fun _ _ => rfl⟩
theorem int_info : (Tryd.prog.info? 3).map (fun i => (i.zero, i.size, i.bytes)) = some (some (.int .i64 0), 1, 8) := by kernel_rfl
theorem one_newI (w : World) (v : Value) : ∀ j u, [v][j]? = some u → (w.alloc (.cells #[v] 3)).cell? ((⟨w.heap.size, 0, none⟩ : Addr).add j) = some u := by
  intro j u hu
  rcases j with _ | j
  · simp at hu
    subst hu
    simp [Addr.add]
  · simp at hu
/-- 'append(s, y)' on whole numbers of the call's own, as a step of a region that draws its order. -/
theorem step_int {ops : Array Oper} {o : Oper} {a : Act} {K : Act → World → Prop} {Q : Exit → Act → World → Prop} {E : Prop} (w : World) (hgd : o.guard = none) (s x : Operand)
    (ho : o.op = .call { callee := .builtin .append, args := #[s, x], argTypes := #[44, 44] }) (B : Nat) (v : Value) (done : List Int) (y : Int) (hs : a.eval s = v) (hown : OwnI w B v done)
    (hx : a.eval x = .slice (some ⟨w.heap.size, 0, none⟩) 1 1) (hlen : done.length ≤ 10000000) (hB : B ≤ w.heap.size)
    (h : ∀ p c w', OwnI w' B (.slice (some ⟨p, 0, none⟩) (done ++ [y]).length c) (done ++ [y]) → Below B w w' → K (a.put o.dst (.slice (some ⟨p, 0, none⟩) (done ++ [y]).length c)) w') : if Region.wanted o (yielded ops a.tmps) = true then Oper.wp Tryd.prog o a (w.alloc (.cells #[.int .i64 y] 3)) K Q else E := by
  have hw : Region.wanted o (yielded ops a.tmps) = true := by simp [Region.wanted, hgd]
  rw [if_pos hw]
  obtain ⟨i0, hi, hz0, hz1, hz2⟩ := info_parts int_info
  refine wp_append_own _ s x 44 ho B 3 i0 (.int .i64 0) 1 8 Tryd.underlying44 hi hz0 hz1 hz2 rfl (by decide) v _ _ hs (World.ownsRow.alloc hown _) ⟨w.heap.size, 0, none⟩ 1 1 [.int .i64 y] hx rfl (one_newI w _) (by intro u hu; simp at hu; subst hu; rfl) (by simp only [maxLen]; omega) (by omega) (by simp; omega) ?_
  intro v' w' ho' hg hn
  have hbel : Below B w w' := ((Below.refl _ _).alloc hB _).grown hg (by simp; omega) (fun k hk => (World.ownsRow.lt hown k hk).1)
  have ho2 : w'.ownsRow B 3 1 v' (done ++ [y]).length (vi (done ++ [y])) := by simpa [vi] using ho'
  have hform : ∃ p c, v' = .slice (some ⟨p, 0, none⟩) (done ++ [y]).length c := by
    rcases ho2.2 with ⟨_, hn0⟩ | ⟨p, c, _, e1, _⟩
    · simp at hn0
    · exact ⟨p, c, e1⟩
  obtain ⟨p, c, rfl⟩ := hform
  exact h p c w' ho2 hbel
theorem lb_one {l : List Int} {k N : Nat} {L : List Int} {b : Nat} (h : k < N) : lb l (N - (k + 1)) (L ++ [(ru l b 0).1]) (ru l b 0).2.1 (ru l b 0).2.2 = lb l (N - k) L b 0 := by
  rw [show N - k = (N - (k + 1)) + 1 from by omega]
  exact (if_pos rfl).symm
/-- How far the labels are told. -/
def LbMid (w0 : World) (v : Value) (l : List Int) (g : Nat) (w : World) (h N : Nat) (op : Int) (R : List Int × Nat × Int) (B : Nat) (k : Nat) (L : List Int) (a : Nat) (e : Int) (o : Value) (wr : World) : Prop :=
  k ≤ N ∧ lb l (N - k) L a e = R ∧ L.length = k ∧ (e = 0 → N ≤ 64) ∧ Rd w0 v l g wr a e ∧ InAt wr h op 0 0 0 o ∧ OwnI wr B o L ∧ InAt wr w.heap.size 0 0 0 0 (.slice none 0 0) ∧ But g w wr ∧ B ≤ wr.heap.size
theorem ins_table {w0 w : World} {v : Value} {l : List Int} {g a : Nat} {e : Int} (hr : Rd w0 v l g w a e) (op e1 : Int) (a1 : Nat) (N : Nat) (t : Bool) (a3 : Nat) (e3 : Int) (f4 : Int) (LL : List Int) (bb : Nat) (dd : Int)
    (h1 : a1 ≤ l.length)
    (hB : ∀ W, Rd w0 v l g W a e → Calls Tryd.prog 72 #[.pointer (some ⟨g, 0, none⟩)] W (Turn v g (.int .i64 op) a1 e1 W))
    (hK : ∀ W, Calls Tryd.prog 57 #[.int .i64 op] W fun en w' => en = .returned (.int .i64 4) ∧ Below W.heap.size W w')
    (q1 : decide ((64 : Int) < (N : Int)) = t)
    (hU3 : ∀ W, Rd w0 v l g W a1 e1 → Calls Tryd.prog 74 #[.pointer (some ⟨g, 0, none⟩)] W (Turn v g (.int .i64 (N : Int)) a3 e3 W))
    (hl3 : a3 ≤ l.length)
    (hF4 : ∀ W, Rd w0 v l g W a3 e3 → Calls Tryd.prog 73 #[.pointer (some ⟨g, 0, none⟩), .bool t, .int .i64 4] W (Turn v g (.tuple #[]) a3 f4 W))
    (q2 : f4 = 0 → N ≤ 64)
    (hRq : lb l N [] a3 f4 = (LL, bb, dd))
    : Calls Tryd.prog 53 #[.pointer (some ⟨g, 0, none⟩)] w (InTold v g op (ru l bb dd).1 0 0 LL (ru l bb dd).2.1 (ru l bb dd).2.2 w) := by
  have HR := Lib.hid hr
  have HG : Hid (w.heap.size ≠ g) := by have := hr.rd.lt; show _ ≠ _; omega
  have HH1 := Lib.hid h1
  have HB0 := Lib.hid hB
  have HK := Lib.hid hK
  have HU3 := Lib.hid hU3
  have HF4 := Lib.hid hF4
  have HRq := Lib.hid hRq
  clear hr h1 hB hK hU3 hF4 hRq
  go_enter Tryd.func53, Tryd.ntmps53
  go_wp2_with fail
  have HA := Lib.hid ((Below.refl w.heap.size w).alloc (Nat.le_refl _) (.cells #[.int .i64 0, .int .i64 0, .int .i64 0, .int .u64 0, .slice none 0 0] 50))
  refine (HB0.out _ (HR.out.keep HA.out)).mono ?_
  rintro en w1 ⟨rfl, hr1, hb1⟩
  have HR := Lib.hid ((HR.out.keep HA.out).turn hr1 hb1 HH1.out)
  have HO := Lib.hid ((InAt.at_ w w.heap.size 0 0 0 0 (.slice none 0 0) 50 rfl).but hb1 HG.out)
  have HB := Lib.hid (((But.refl g w).allocHigh (.cells #[.int .i64 0, .int .i64 0, .int .i64 0, .int .u64 0, .slice none 0 0] 50)).trans hb1)
  clear hr1 hb1
  go_wp2_with fail
  have HA1 := Lib.hid ((Below.refl w1.heap.size w1).alloc (Nat.le_refl _) (.cells #[.int .i64 op, .int .i64 0, .int .i64 0, .int .u64 0, .slice none 0 0] 50))
  refine (HK.out _).mono ?_
  rintro en w2 ⟨rfl, hb2⟩
  have HC := Lib.hid (HA1.out.trans (hb2.mono HA1.out.size))
  have HI := Lib.hid ((InAt.at_ w1 w1.heap.size op 0 0 0 (.slice none 0 0) 50 rfl).keep hb2)
  have HHG : Hid (w1.heap.size ≠ g) := by have := HR.out.rd.lt; show _ ≠ _; omega
  have HW0 : Hid (w0.heap.size ≤ w1.heap.size) := HR.out.below.size
  have HWW : Hid (w.heap.size ≤ w1.heap.size) := HB.out.size
  have HHO : Hid (w1.heap.size ≠ w.heap.size) := by have := HO.out.lt; show _ ≠ _; omega
  have HR := Lib.hid (HR.out.keep HC.out)
  have HO := Lib.hid (HO.out.keep HC.out)
  have HB := Lib.hid (HB.out.trans (But.of_below HC.out))
  clear hb2
  obtain ⟨i0, ic0, ic1, ic2, ic3, ic4, if0, if1, if2, if3, if4⟩ := HI.out
  go_wp2_with fail
  refine (fail_no 3 HR.out).mono ?_
  rintro en w3 ⟨rfl, hr, hb⟩
  have HR := Lib.hid (HR.out.turn hr hb HR.out.at_le)
  have HI := Lib.hid (HI.out.but hb HHG.out)
  have HO := Lib.hid (HO.out.but hb HG.out)
  have HB := Lib.hid (HB.out.trans hb)
  clear hr hb
  clear i0 ic0 ic1 ic2 ic3 ic4 if0 if1 if2 if3 if4
  obtain ⟨i0, ic0, ic1, ic2, ic3, ic4, if0, if1, if2, if3, if4⟩ := HI.out
  go_wp2_with fail
  refine (HU3.out _ HR.out).mono ?_
  rintro en w4 ⟨rfl, hr, hb⟩
  have HR := Lib.hid (HR.out.turn hr hb hl3)
  have HI := Lib.hid (HI.out.but hb HHG.out)
  have HO := Lib.hid (HO.out.but hb HG.out)
  have HB := Lib.hid (HB.out.trans hb)
  clear hr hb
  clear i0 ic0 ic1 ic2 ic3 ic4 if0 if1 if2 if3 if4
  obtain ⟨i0, ic0, ic1, ic2, ic3, ic4, if0, if1, if2, if3, if4⟩ := HI.out
  go_wp2_with fail
  refine (HF4.out _ HR.out).mono ?_
  rintro en w5 ⟨rfl, hr, hb⟩
  have HR := Lib.hid (HR.out.turn hr hb HR.out.at_le)
  have HI := Lib.hid (HI.out.but hb HHG.out)
  have HO := Lib.hid (HO.out.but hb HG.out)
  have HB := Lib.hid (HB.out.trans hb)
  clear hr hb
  clear i0 ic0 ic1 ic2 ic3 ic4 if0 if1 if2 if3 if4
  obtain ⟨i0, ic0, ic1, ic2, ic3, ic4, if0, if1, if2, if3, if4⟩ := HI.out
  have Q2 := Lib.hid q2
  clear q2
  have HGB : Hid (g < w5.heap.size) := HR.out.rd.lt
  have HIB : Hid (w1.heap.size < w5.heap.size) := HI.out.lt
  have HOB : Hid (w.heap.size < w5.heap.size) := HO.out.lt
  have H0B : Hid (w0.heap.size ≤ w5.heap.size) := HR.out.below.size
  go_wp2_with fail
  clear ic0 ic1 ic2 ic3 ic4 if0 if1 if2 if3 if4
  go_loopw [6] (fun j' wr => ∃ (k : Nat) (L : List Int) (a : Nat) (e : Int) (o : Value), j' = .int .i64 (k : Int) ∧ LbMid w0 v l g w w1.heap.size N op (lb l N [] a3 f4) w5.heap.size k L a e o wr) (fun j' _ => N - (intOf j').toNat)
  case atStart => exact ⟨0, [], a3, f4, _, rfl, Nat.zero_le _, rfl, rfl, Q2.out, HR.out, HI.out, ownI_nil _ _, HO.out, HB.out, Nat.le_refl _⟩
  case round =>
    clear HR HI HO HB
    obtain ⟨k, L, b, d, o, rfl, hk, hL, hlen, h64, hR, hI, hOw, hO, hBt, hsz⟩ := hrel
    have HR := Lib.hid hR
    have HI := Lib.hid hI
    have HO := Lib.hid hO
    have HB := Lib.hid hBt
    have HOw := Lib.hid hOw
    have HL := Lib.hid hL
    have H64 := Lib.hid h64
    clear hR hI hO hBt hOw hL h64
    obtain ⟨r0, rc0, rc1, rc2, rf0, rf1, rf2⟩ := HR.out.rd
    obtain ⟨P, c, ho⟩ := HOw.out.form
    rw [hlen] at ho
    subst ho
    by_cases hlt : k < N
    · by_cases hd : d = 0
      · subst hd
        have hN := H64.out rfl
        have c1 : decide ((k : Int) < (N : Int)) = true := by simpa using hlt
        obtain ⟨i0, ic0, ic1, ic2, ic3, ic4, if0, if1, if2, if3, if4⟩ := HI.out
        have HRd := Lib.hid (HR.out.keep (drewB _))
        have HOwd := Lib.hid (HOw.out.keep (drewB _))
        go_wp2_with fail
        go_region_law (first | (go_simp; go_at_call 74; refine (u_any HRd.out).mono ?_; rintro en w6 ⟨rfl, hr, hb⟩; obtain ⟨k0, kc0, kc1, kc2, kc3, kc4, kf0, kf1, kf2, kf3, kf4⟩ := (HI.out.keep (drewB _)).but hb HHG.out) | (refine step_int w6 rfl (.tmp 68) (.tmp 71) rfl w5.heap.size _ L _ (by rfl) (HOwd.out.but hb HGB.out) (by rfl) (by omega) (Nat.le_trans hsz hb.size) ?_; intro p7 c7 w7 ho7 hb7; have HI7 := Lib.hid (((HI.out.keep (drewB _)).but hb HHG.out).kept hb7 HIB.out); obtain ⟨j0, jc0, jc1, jc2, jc3, jc4, jf0, jf1, jf2, jf3, jf4⟩ := HI7.out))
        all_goals (
          rw [show (L ++ [(ru l b 0).1]).length = k + 1 from by simp [hlen]] at ho7
          clear kc0 kc1 kc2 kc3 kc4 kf0 kf1 kf2 kf3 kf4 ic0 ic1 ic2 ic3 ic4 if0 if1 if2 if3 if4 jc0 jc1 jc2 jc3 jc4 jf0 jf1 jf2 jf3 jf4 rc0 rc1 rc2 rf0 rf1 rf2
          have HR7 := Lib.hid (((HRd.out.turn hr hb (ru_le HRd.out.at_le)).kept hb7 HGB.out H0B.out).far (p := ⟨w1.heap.size, 4, none⟩) HHG.out HW0.out (.slice (some ⟨p7, 0, none⟩) (k + 1) c7))
          have HI8 := Lib.hid (HI7.out.setL (.slice (some ⟨p7, 0, none⟩) (k + 1) c7))
          have HO7 := Lib.hid ((((HO.out.keep (drewB _)).but hb HG.out).kept hb7 HOB.out).far (p := ⟨w1.heap.size, 4, none⟩) HHO.out (.slice (some ⟨p7, 0, none⟩) (k + 1) c7))
          have HB7 := Lib.hid ((((HB.out.trans (But.of_below (drewB _))).trans hb).kept hb7 (Nat.le_of_lt HOB.out)).setHigh (p := ⟨w1.heap.size, 4, none⟩) HWW.out (.slice (some ⟨p7, 0, none⟩) (k + 1) c7))
          have HOw7 := Lib.hid (ho7.far (p := ⟨w1.heap.size, 4, none⟩) HIB.out (.slice (some ⟨p7, 0, none⟩) (k + 1) c7))
          have hsz7 : w5.heap.size ≤ (w7.setCell ⟨w1.heap.size, 4, none⟩ (.slice (some ⟨p7, 0, none⟩) (k + 1) c7)).heap.size := Nat.le_trans (Nat.le_trans hsz (Nat.le_trans hb.size hb7.size)) (by simp [World.setCell])
          clear hr hb hb7 ho7 HI7
          go_wp2_with fail
          go_roundw
          case rel => exact ⟨k + 1, L ++ [(ru l b 0).1], _, _, _, by go_num, hlt, (lb_one hlt).trans HL.out, by simp [hlen], fun _ => hN, HR7.out, HI8.out, HOw7.out, HO7.out, HB7.out, hsz7⟩
          case measure => simp [intOf]; omega)
      · have c1 : decide ((k : Int) < (N : Int)) = true := by simpa using hlt
        have c2 : (d == 0) = false := by simpa using hd
        have hx : lb l (N - k) L b d = (L, b, d) := lb_err hd
        clear hd
        obtain ⟨rfl, rfl, rfl⟩ : L = LL ∧ b = bb ∧ d = dd := by simpa using hx.symm.trans (HL.out.trans HRq.out)
        clear hx
        go_wp2_with fail
        refine (u_any HR.out).mono ?_
        rintro en w6 ⟨rfl, hr, hb⟩
        have HR := Lib.hid (HR.out.turn hr hb (ru_le HR.out.at_le))
        have HI := Lib.hid (HI.out.but hb HHG.out)
        have HO := Lib.hid (HO.out.but hb HG.out)
        have HB := Lib.hid (HB.out.trans hb)
        have HOw := Lib.hid (HOw.out.but hb HGB.out)
        clear hr hb rc0 rc1 rc2 rf0 rf1 rf2
        obtain ⟨i0, ic0, ic1, ic2, ic3, ic4, if0, if1, if2, if3, if4⟩ := HI.out
        obtain ⟨o0, oc0, oc1, oc2, oc3, oc4, of0, of1, of2, of3, of4⟩ := HO.out
        have hn1 : w1.heap.size ≠ w.heap.size := HHO.out
        have hn2 : w.heap.size ≠ w1.heap.size := fun e => HHO.out e.symm
        go_wp2_with fail
        have HR := Lib.hid (HR.out.far (p := ⟨w1.heap.size, 1, none⟩) HHG.out HW0.out (.int .i64 (ru l b d).1))
        have HOw := Lib.hid (HOw.out.far (p := ⟨w1.heap.size, 1, none⟩) HIB.out (.int .i64 (ru l b d).1))
        have HB := Lib.hid (HB.out.setHigh (p := ⟨w1.heap.size, 1, none⟩) HWW.out (.int .i64 (ru l b d).1))
        refine bodyPost_ret (v := .agg #[.int .i64 op, .int .i64 (ru l b d).1, .int .i64 0, .int .u64 0, .slice P k c]) (by simp [results, Tryd.results53, go_sem, oc0, oc1, oc2, oc3, oc4]) rfl ⟨_, rfl, ?_, ?_, ?_⟩
        · exact ((((((HOw.out.far (p := ⟨w.heap.size, 0, none⟩) HOB.out _).far (p := ⟨w.heap.size, 1, none⟩) HOB.out _).far (p := ⟨w.heap.size, 2, none⟩) HOB.out _).far (p := ⟨w.heap.size, 3, none⟩) HOB.out _).far (p := ⟨w.heap.size, 4, none⟩) HOB.out _).mono (Nat.le_of_lt HOB.out))
        · exact (((((HR.out.rd.far (p := ⟨w.heap.size, 0, none⟩) HG.out _).far (p := ⟨w.heap.size, 1, none⟩) HG.out _).far (p := ⟨w.heap.size, 2, none⟩) HG.out _).far (p := ⟨w.heap.size, 3, none⟩) HG.out _).far (p := ⟨w.heap.size, 4, none⟩) HG.out _)
        · exact (((((HB.out.setHigh (p := ⟨w.heap.size, 0, none⟩) (Nat.le_refl _) _).setHigh (p := ⟨w.heap.size, 1, none⟩) (Nat.le_refl _) _).setHigh (p := ⟨w.heap.size, 2, none⟩) (Nat.le_refl _) _).setHigh (p := ⟨w.heap.size, 3, none⟩) (Nat.le_refl _) _).setHigh (p := ⟨w.heap.size, 4, none⟩) (Nat.le_refl _) _)
    · have c1 : decide ((k : Int) < (N : Int)) = false := by simpa using hlt
      have hx : lb l (N - k) L b d = (L, b, d) := by rw [show N - k = 0 from by omega]; rfl
      obtain ⟨rfl, rfl, rfl⟩ : L = LL ∧ b = bb ∧ d = dd := by simpa using hx.symm.trans (HL.out.trans HRq.out)
      clear hx
      go_wp2_with fail
      refine (u_any HR.out).mono ?_
      rintro en w6 ⟨rfl, hr, hb⟩
      have HR := Lib.hid (HR.out.turn hr hb (ru_le HR.out.at_le))
      have HI := Lib.hid (HI.out.but hb HHG.out)
      have HO := Lib.hid (HO.out.but hb HG.out)
      have HB := Lib.hid (HB.out.trans hb)
      have HOw := Lib.hid (HOw.out.but hb HGB.out)
      clear hr hb rc0 rc1 rc2 rf0 rf1 rf2
      obtain ⟨i0, ic0, ic1, ic2, ic3, ic4, if0, if1, if2, if3, if4⟩ := HI.out
      obtain ⟨o0, oc0, oc1, oc2, oc3, oc4, of0, of1, of2, of3, of4⟩ := HO.out
      have hn1 : w1.heap.size ≠ w.heap.size := HHO.out
      have hn2 : w.heap.size ≠ w1.heap.size := fun e => HHO.out e.symm
      go_wp2_with fail
      have HR := Lib.hid (HR.out.far (p := ⟨w1.heap.size, 1, none⟩) HHG.out HW0.out (.int .i64 (ru l b d).1))
      have HOw := Lib.hid (HOw.out.far (p := ⟨w1.heap.size, 1, none⟩) HIB.out (.int .i64 (ru l b d).1))
      have HB := Lib.hid (HB.out.setHigh (p := ⟨w1.heap.size, 1, none⟩) HWW.out (.int .i64 (ru l b d).1))
      refine bodyPost_ret (v := .agg #[.int .i64 op, .int .i64 (ru l b d).1, .int .i64 0, .int .u64 0, .slice P k c]) (by simp [results, Tryd.results53, go_sem, oc0, oc1, oc2, oc3, oc4]) rfl ⟨_, rfl, ?_, ?_, ?_⟩
      · exact ((((((HOw.out.far (p := ⟨w.heap.size, 0, none⟩) HOB.out _).far (p := ⟨w.heap.size, 1, none⟩) HOB.out _).far (p := ⟨w.heap.size, 2, none⟩) HOB.out _).far (p := ⟨w.heap.size, 3, none⟩) HOB.out _).far (p := ⟨w.heap.size, 4, none⟩) HOB.out _).mono (Nat.le_of_lt HOB.out))
      · exact (((((HR.out.rd.far (p := ⟨w.heap.size, 0, none⟩) HG.out _).far (p := ⟨w.heap.size, 1, none⟩) HG.out _).far (p := ⟨w.heap.size, 2, none⟩) HG.out _).far (p := ⟨w.heap.size, 3, none⟩) HG.out _).far (p := ⟨w.heap.size, 4, none⟩) HG.out _)
      · exact (((((HB.out.setHigh (p := ⟨w.heap.size, 0, none⟩) (Nat.le_refl _) _).setHigh (p := ⟨w.heap.size, 1, none⟩) (Nat.le_refl _) _).setHigh (p := ⟨w.heap.size, 2, none⟩) (Nat.le_refl _) _).setHigh (p := ⟨w.heap.size, 3, none⟩) (Nat.le_refl _) _).setHigh (p := ⟨w.heap.size, 4, none⟩) (Nat.le_refl _) _)
end Go.Proofs.YtdmidagcdhhlhaaDoor.Ins

/- The document's reader: an instruction, of whatever kind. -/
namespace Go.Proofs.YtdmidagcdhhlhaaDoor.Ins
open Go.RowKit Ints Typ
set_option maxRecDepth 100000
set_option maxHeartbeats 1000000

/-- An instruction. -/
structure Ins where
  op : Int
  A : Int
  B : Int
  K : Int
  L : List Int
/-- The next instruction; the place behind it; the error. -/
def ri (l : List Int) (a : Nat) (e : Int) : Ins × Nat × Int :=
  let p := rb l a e
  if kd p.1 = 0 then (⟨p.1, 0, 0, 0, []⟩, p.2.1, rf true p.2.2 3)
  else if kd p.1 = 1 then (⟨p.1, 0, 0, 0, []⟩, p.2.1, p.2.2)
  else if kd p.1 = 2 then
    let q := rb l p.2.1 p.2.2
    (⟨p.1, if q.1 = 64 then 0 else q.1, 0, 0, []⟩, q.2.1, rf (q.1 != 64 && (q.1 != 126 && q.1 != 127)) q.2.2 3)
  else if kd p.1 = 3 then
    let q := ru l p.2.1 p.2.2
    (⟨p.1, q.1, 0, 0, []⟩, q.2.1, q.2.2)
  else if kd p.1 = 4 then
    let q := ru l p.2.1 p.2.2
    let r := lb l q.1.toNat [] q.2.1 (rf (decide (64 < q.1)) q.2.2 4)
    let s := ru l r.2.1 r.2.2
    (⟨p.1, s.1, 0, 0, r.1⟩, s.2.1, s.2.2)
  else if kd p.1 = 5 then
    let q := ru l p.2.1 p.2.2
    let r := rb l q.2.1 q.2.2
    (⟨p.1, q.1, 0, 0, []⟩, r.2.1, rf (r.1 != 0) r.2.2 3)
  else if kd p.1 = 6 then
    let q := ru l p.2.1 p.2.2
    let r := ru l q.2.1 q.2.2
    (⟨p.1, q.1, r.1, 0, []⟩, r.2.1, r.2.2)
  else if kd p.1 = 7 then
    let r := rb l p.2.1 p.2.2
    (⟨p.1, 0, 0, 0, []⟩, r.2.1, rf (r.1 != 0) r.2.2 3)
  else if kd p.1 = 8 then
    let q := rs 32 l p.2.1 p.2.2
    (⟨p.1, 0, 0, vaT 127 q.1, []⟩, q.2.1, q.2.2)
  else
    let q := rs 64 l p.2.1 p.2.2
    (⟨p.1, 0, 0, IntKind.u64.wrap q.1, []⟩, q.2.1, q.2.2)
theorem ru_nat (l : List Int) (a : Nat) (e : Int) : (((ru l a e).1.toNat : Nat) : Int) = (ru l a e).1 := by
  unfold ru
  split
  · rfl
  · cases Leb.rdl Leb.fitU 32 (l.drop a) 0 0 <;> simp
def InsTold (v : Value) (g : Nat) (x : Ins × Nat × Int) (w : World) (en : Ending) (w' : World) : Prop := InTold v g x.1.op x.1.A x.1.B x.1.K x.1.L x.2.1 x.2.2 w en w'
theorem instr_any {w0 w : World} {v : Value} {l : List Int} {g a : Nat} {e : Int} (h : Rd w0 v l g w a e) : Calls Tryd.prog 53 #[.pointer (some ⟨g, 0, none⟩)] w (InsTold v g (ri l a e) w) := by
  have hp := rb_le (e := e) h.at_le
  have hB := fun W (H : Rd w0 v l g W a e) => byte_any H
  have hr := kd_range (rb l a e).1
  have hK : ∀ k : Int, kd (rb l a e).1 = k → ∀ W, Calls Tryd.prog 57 #[.int .i64 (rb l a e).1] W fun en w' => en = .returned (.int .i64 k) ∧ Below W.heap.size W w' := fun k hk W => by
    have := rkind_any (rb l a e).1 W
    unfold KdTold at this
    rwa [hk] at this
  have hk : kd (rb l a e).1 = 0 ∨ kd (rb l a e).1 = 1 ∨ kd (rb l a e).1 = 2 ∨ kd (rb l a e).1 = 3 ∨ kd (rb l a e).1 = 4 ∨ kd (rb l a e).1 = 5 ∨ kd (rb l a e).1 = 6 ∨ kd (rb l a e).1 = 7 ∨ kd (rb l a e).1 = 8 ∨ kd (rb l a e).1 = 9 := by omega
  rcases hk with hk | hk | hk | hk | hk | hk | hk | hk | hk | hk
  · rw [show ri l a e = (⟨(rb l a e).1, 0, 0, 0, []⟩, (rb l a e).2.1, rf true (rb l a e).2.2 3) from by simp [ri, hk]]
    exact ins_bad h _ _ _ _ hp hB (hK 0 hk) fun W H => fail_any true 3 H
  · rw [show ri l a e = (⟨(rb l a e).1, 0, 0, 0, []⟩, (rb l a e).2.1, (rb l a e).2.2) from by simp [ri, hk]]
    exact ins_plain h _ _ _ hp hB (hK 1 hk)
  · have hB2 := fun W (H : Rd w0 v l g W (rb l a e).2.1 (rb l a e).2.2) => byte_any H
    have hq := rb_le (e := (rb l a e).2.2) hp
    rw [show ri l a e = (⟨(rb l a e).1, if (rb l (rb l a e).2.1 (rb l a e).2.2).1 = 64 then 0 else (rb l (rb l a e).2.1 (rb l a e).2.2).1, 0, 0, []⟩, (rb l (rb l a e).2.1 (rb l a e).2.2).2.1, rf ((rb l (rb l a e).2.1 (rb l a e).2.2).1 != 64 && ((rb l (rb l a e).2.1 (rb l a e).2.2).1 != 126 && (rb l (rb l a e).2.1 (rb l a e).2.2).1 != 127)) (rb l (rb l a e).2.1 (rb l a e).2.2).2.2 3) from by simp [ri, hk]]
    generalize rb l (rb l a e).2.1 (rb l a e).2.2 = q at *
    obtain ⟨x, a3, e3⟩ := q
    by_cases h64 : x = 64
    · subst h64
      exact ins_block64 h _ _ _ a3 e3 hp hB (hK 2 hk) hB2 hq
    · by_cases h126 : x = 126
      · subst h126
        exact ins_block126 h _ _ _ a3 e3 hp hB (hK 2 hk) hB2 hq
      · by_cases h127 : x = 127
        · subst h127
          exact ins_block127 h _ _ _ a3 e3 hp hB (hK 2 hk) hB2 hq
        · have q1 : (x != 64) = true := by simpa using h64
          have q2 : (x != 126) = true := by simpa using h126
          have q3 : (x != 127) = true := by simpa using h127
          rw [q1, q2, q3, if_neg h64]
          exact ins_blockbad h _ _ _ x a3 e3 _ hp hB (hK 2 hk) q1 q2 q3 (by simpa using h64) hB2 hq fun W H => fail_any true 3 H
  · rw [show ri l a e = (⟨(rb l a e).1, (ru l (rb l a e).2.1 (rb l a e).2.2).1, 0, 0, []⟩, (ru l (rb l a e).2.1 (rb l a e).2.2).2.1, (ru l (rb l a e).2.1 (rb l a e).2.2).2.2) from by simp [ri, hk]]
    exact ins_index h _ _ _ _ _ _ hp hB (hK 3 hk) (fun W H => u_any H) (ru_le hp)
  · have hN := ru_nat l (rb l a e).2.1 (rb l a e).2.2
    have hU := fun W (H : Rd w0 v l g W (rb l a e).2.1 (rb l a e).2.2) => u_any H
    have hl := ru_le (e := (rb l a e).2.2) hp
    have hri : ri l a e = (let q := ru l (rb l a e).2.1 (rb l a e).2.2; let r := lb l q.1.toNat [] q.2.1 (rf (decide (64 < q.1)) q.2.2 4); let s := ru l r.2.1 r.2.2; (⟨(rb l a e).1, s.1, 0, 0, r.1⟩, s.2.1, s.2.2)) := by simp [ri, hk]
    rw [hri]
    clear hri
    generalize ru l (rb l a e).2.1 (rb l a e).2.2 = q at *
    obtain ⟨x, a3, e3⟩ := q
    simp only at hN hU hl ⊢
    rw [← hN] at hU
    have hx : (64 : Int) < x ↔ (64 : Int) < ((x.toNat : Nat) : Int) := by rw [hN]
    simp only [hx]
    refine ins_table h _ _ _ x.toNat _ a3 e3 _ _ _ _ hp hB (hK 4 hk) rfl hU hl (fun W H => fail_any _ 4 H) ?_ rfl
    intro hz
    by_cases h64 : (64 : Int) < ((x.toNat : Nat) : Int)
    · rw [decide_eq_true h64] at hz
      unfold rf at hz
      simp only [cond_true] at hz
      split at hz <;> omega
    · omega
  · have hU := fun W (H : Rd w0 v l g W (rb l a e).2.1 (rb l a e).2.2) => u_any H
    have hl := ru_le (e := (rb l a e).2.2) hp
    have hri : ri l a e = (let q := ru l (rb l a e).2.1 (rb l a e).2.2; let r := rb l q.2.1 q.2.2; (⟨(rb l a e).1, q.1, 0, 0, []⟩, r.2.1, rf (r.1 != 0) r.2.2 3)) := by simp [ri, hk]
    rw [hri]
    clear hri
    generalize ru l (rb l a e).2.1 (rb l a e).2.2 = q at *
    obtain ⟨x, a3, e3⟩ := q
    have hB2 := fun W (H : Rd w0 v l g W a3 e3) => byte_any H
    have hq := rb_le (e := e3) hl
    simp only at hB2 hq ⊢
    generalize rb l a3 e3 = r at *
    obtain ⟨y, a4, e4⟩ := r
    by_cases hy : y = 0
    · subst hy
      exact ins_call0 h _ _ _ x a3 e3 a4 e4 hp hB (hK 5 hk) hU hl hB2 hq
    · have q1 : (y != 0) = true := by simpa using hy
      simp only [q1]
      exact ins_callbad h _ _ _ x y a3 e3 a4 e4 _ hp hB (hK 5 hk) q1 hU hl hB2 hq fun W H => fail_any true 3 H
  · have hri : ri l a e = (let q := ru l (rb l a e).2.1 (rb l a e).2.2; let r := ru l q.2.1 q.2.2; (⟨(rb l a e).1, q.1, r.1, 0, []⟩, r.2.1, r.2.2)) := by simp [ri, hk]
    rw [hri]
    exact ins_mem h _ _ _ _ _ _ _ _ _ hp hB (hK 6 hk) (fun W H => u_any H) (ru_le hp) (fun W H => u_any H) (ru_le (ru_le hp))
  · have hB2 := fun W (H : Rd w0 v l g W (rb l a e).2.1 (rb l a e).2.2) => byte_any H
    have hq := rb_le (e := (rb l a e).2.2) hp
    have hri : ri l a e = (let r := rb l (rb l a e).2.1 (rb l a e).2.2; (⟨(rb l a e).1, 0, 0, 0, []⟩, r.2.1, rf (r.1 != 0) r.2.2 3)) := by simp [ri, hk]
    rw [hri]
    clear hri
    generalize rb l (rb l a e).2.1 (rb l a e).2.2 = q at *
    obtain ⟨y, a3, e3⟩ := q
    by_cases hy : y = 0
    · subst hy
      exact ins_mop0 h _ _ _ a3 e3 hp hB (hK 7 hk) hB2 hq
    · have q1 : (y != 0) = true := by simpa using hy
      simp only [q1]
      exact ins_mopbad h _ _ _ y a3 e3 _ hp hB (hK 7 hk) q1 hB2 hq fun W H => fail_any true 3 H
  · have hri : ri l a e = (let q := rs 32 l (rb l a e).2.1 (rb l a e).2.2; (⟨(rb l a e).1, 0, 0, vaT 127 q.1, []⟩, q.2.1, q.2.2)) := by simp [ri, hk]
    rw [hri]
    exact ins_c32 h _ _ _ _ _ _ _ hp hB (hK 8 hk) (fun W H => s_any 32 (.inl rfl) H) (rs_le hp) fun W => rvalue_any 127 _ W
  · have hri : ri l a e = (let q := rs 64 l (rb l a e).2.1 (rb l a e).2.2; (⟨(rb l a e).1, 0, 0, IntKind.u64.wrap q.1, []⟩, q.2.1, q.2.2)) := by simp [ri, hk]
    rw [hri]
    exact ins_c64 h _ _ _ _ _ _ hp hB (hK 9 hk) (fun W H => s_any 64 (.inr rfl) H) (rs_le hp)
end Go.Proofs.YtdmidagcdhhlhaaDoor.Ins

/- The document's Read. -/
namespace Go.Proofs.YtdmidagcdhhlhaaDoor.Ins
open Go.RowKit Ints Typ
set_option maxRecDepth 100000
set_option maxHeartbeats 2000000

def NoIns : Value := .agg #[.int .i64 0, .int .i64 0, .int .i64 0, .int .u64 0, .slice none 0 0]
theorem rread_low (A : Option Addr) (n c : Nat) (at_ : Int) (w : World) (h1 : decide (at_ < 0) = true) : Calls Tryd.prog 34 #[.slice A n c, .int .i64 at_] w fun en w' => en = .returned (.tuple #[NoIns, .int .i64 0, .int .i64 1]) ∧ Below w.heap.size w w' := by
  go_enter Tryd.func34, Tryd.ntmps34
  go_wp2_with fail
  refine bodyPost_ret (v := .tuple #[NoIns, .int .i64 0, .int .i64 1]) (by simp [results, Tryd.results34, go_sem, NoIns]) rfl ⟨rfl, ?_⟩
  exact (Below.refl _ _).alloc (Nat.le_refl _) _
theorem rread_high (A : Option Addr) (n c : Nat) (at_ : Int) (w : World) (h1 : decide (at_ < 0) = false) (h2 : decide ((n : Int) < at_) = true) : Calls Tryd.prog 34 #[.slice A n c, .int .i64 at_] w fun en w' => en = .returned (.tuple #[NoIns, .int .i64 0, .int .i64 1]) ∧ Below w.heap.size w w' := by
  go_enter Tryd.func34, Tryd.ntmps34
  go_wp2_with fail
  refine bodyPost_ret (v := .tuple #[NoIns, .int .i64 0, .int .i64 1]) (by simp [results, Tryd.results34, go_sem, NoIns]) rfl ⟨rfl, ?_⟩
  exact (Below.refl _ _).alloc (Nat.le_refl _) _
theorem RdAt.at_ (w : World) (g : Nat) (v : Value) (a e : Int) (t : TypeId) (hh : g = w.heap.size) : RdAt (w.alloc (.cells #[v, .int .i64 a, .int .i64 e] t)) g v a e := by
  subst hh
  exact ⟨by simp, by simp, by simp, by simp, by simp, by simp, by simp⟩
/-- An instruction, a place, an error: told. -/
def RiTold (x : Ins × Int × Int) (w : World) (en : Ending) (w' : World) : Prop :=
  ∃ o, en = .returned (.tuple #[.agg #[.int .i64 x.1.op, .int .i64 x.1.A, .int .i64 x.1.B, .int .u64 x.1.K, o], .int .i64 x.2.1, .int .i64 x.2.2]) ∧ OwnI w' w.heap.size o x.1.L ∧ Below w.heap.size w w'
theorem rread_core (A : Option Addr) (c a n : Nat) (l : List Int) (w : World) (op X B K e : Int) (L : List Int) (h1 : decide ((a : Int) < 0) = false) (h3 : decide (l.length < a) = false) (g : Nat) (hg : g = w.heap.size + 1)
    (hR : ∀ W, Below w.heap.size w W → RdAt W g (.slice A l.length c) (a : Int) 0 → Calls Tryd.prog 53 #[.pointer (some ⟨g, 0, none⟩)] W (InTold (.slice A l.length c) g op X B K L n e W)) (d : Ins × Int × Int)
    (hd : (e = 0 ∧ d = (⟨op, X, B, K, L⟩, (n : Int), 0)) ∨ (e ≠ 0 ∧ d = (⟨0, 0, 0, 0, []⟩, 0, e))) :
    Calls Tryd.prog 34 #[.slice A l.length c, .int .i64 (a : Int)] w (RiTold d w) := by
  subst hg
  have HH := Lib.hid hR
  clear hR
  go_enter Tryd.func34, Tryd.ntmps34
  go_wp2_with fail
  have HB1 := Lib.hid (((Below.refl w.heap.size w).alloc (Nat.le_refl _) (.cells #[.int .i64 0, .int .i64 0, .int .i64 0, .int .u64 0, .slice none 0 0] 50)).alloc (by simp) (.cells #[.slice A l.length c, .int .i64 (a : Int), .int .i64 0] 84))
  refine (HH.out _ HB1.out (RdAt.at_ _ _ _ _ _ _ (by simp))).mono ?_
  rintro en w2 ⟨o, rfl, hown, hrd, hbut⟩
  obtain ⟨P, cc, rfl⟩ := hown.form
  have HO := Lib.hid (((InAt.at_ w w.heap.size 0 0 0 0 (.slice none 0 0) 50 rfl).keep ((Below.refl _ _).alloc (Nat.le_refl _) (.cells #[.slice A l.length c, .int .i64 (a : Int), .int .i64 0] 84))).but hbut (by omega))
  have HB := Lib.hid (HB1.out.trans (hbut.below (by omega) (by simp)))
  have HR := Lib.hid hrd
  have HW := Lib.hid (hown.mono (B' := w.heap.size + 1) (by simp))
  obtain ⟨r0, rc0, rc1, rc2, rf0, rf1, rf2⟩ := hrd
  clear hown hbut
  rcases hd with ⟨rfl, rfl⟩ | ⟨he, rfl⟩
  · go_wp2_with fail
    have HI3 := InAt.at_ w2 w2.heap.size op X B K (.slice P L.length cc) 50 rfl
    have HR3 := HR.out.keep ((Below.refl _ _).alloc (Nat.le_refl _) (.cells #[.int .i64 op, .int .i64 X, .int .i64 B, .int .u64 K, .slice P L.length cc] 50))
    have HO3 := HO.out.keep ((Below.refl _ _).alloc (Nat.le_refl _) (.cells #[.int .i64 op, .int .i64 X, .int .i64 B, .int .u64 K, .slice P L.length cc] 50))
    have HW3 := HW.out.keep ((Below.refl _ _).alloc (Nat.le_refl _) (.cells #[.int .i64 op, .int .i64 X, .int .i64 B, .int .u64 K, .slice P L.length cc] 50))
    have HB3 := HB.out.alloc (Nat.le_of_lt HO.out.lt) (.cells #[.int .i64 op, .int .i64 X, .int .i64 B, .int .u64 K, .slice P L.length cc] 50)
    have hq1 : w2.heap.size ≠ w.heap.size := Nat.ne_of_gt HO.out.lt
    have hq2 : w2.heap.size ≠ w.heap.size + 1 := Nat.ne_of_gt r0
    clear rc0 rc1 rc2 rf0 rf1 rf2 r0 HR HO HW HB HB1
    generalize w2.alloc (.cells #[.int .i64 op, .int .i64 X, .int .i64 B, .int .u64 K, .slice P L.length cc] 50) = w3 at *
    generalize w2.heap.size = q at *
    have hq3 := Ne.symm hq1
    have hq4 := Ne.symm hq2
    have HB4 := Lib.hid HB3
    have HW4 := Lib.hid HW3
    obtain ⟨r0, rc0, rc1, rc2, rf0, rf1, rf2⟩ := HR3
    obtain ⟨o0, oc0, oc1, oc2, oc3, oc4, of0, of1, of2, of3, of4⟩ := HO3
    obtain ⟨i0, ic0, ic1, ic2, ic3, ic4, if0, if1, if2, if3, if4⟩ := HI3
    clear HB3 HW3
    go_region
    all_goals go_wp2_with fail
    all_goals (
      have hb := (((((HB4.out.setCell (p := ⟨w.heap.size, 0, none⟩) (Nat.le_refl _) (.int .i64 op)).setCell (p := ⟨w.heap.size, 1, none⟩) (Nat.le_refl _) (.int .i64 X)).setCell (p := ⟨w.heap.size, 2, none⟩) (Nat.le_refl _) (.int .i64 B)).setCell (p := ⟨w.heap.size, 3, none⟩) (Nat.le_refl _) (.int .u64 K)).setCell (p := ⟨w.heap.size, 4, none⟩) (Nat.le_refl _) (.slice P L.length cc))
      refine bodyPost_ret (v := .tuple #[.agg #[.int .i64 op, .int .i64 X, .int .i64 B, .int .u64 K, .slice P L.length cc], .int .i64 (n : Int), .int .i64 0]) (by simp [results, Tryd.results34, go_sem, oc0, oc1, oc2, oc3, oc4]) rfl ⟨_, rfl, (((((((HW4.out.far (p := ⟨w.heap.size, 0, none⟩) (Nat.lt_succ_self _) _).far (p := ⟨w.heap.size, 1, none⟩) (Nat.lt_succ_self _) _).far (p := ⟨w.heap.size, 2, none⟩) (Nat.lt_succ_self _) _).far (p := ⟨w.heap.size, 3, none⟩) (Nat.lt_succ_self _) _).far (p := ⟨w.heap.size, 4, none⟩) (Nat.lt_succ_self _) _).keep (drewB _)).mono (Nat.le_succ _)), hb.trans ((drewB _).mono hb.size)⟩)
  · have t1 : (e != 0) = true := by simpa using he
    go_wp2_with fail
    have HI3 := InAt.at_ w2 w2.heap.size op X B K (.slice P L.length cc) 50 rfl
    have HR3 := HR.out.keep ((Below.refl _ _).alloc (Nat.le_refl _) (.cells #[.int .i64 op, .int .i64 X, .int .i64 B, .int .u64 K, .slice P L.length cc] 50))
    have HO3 := HO.out.keep ((Below.refl _ _).alloc (Nat.le_refl _) (.cells #[.int .i64 op, .int .i64 X, .int .i64 B, .int .u64 K, .slice P L.length cc] 50))
    have HW3 := HW.out.keep ((Below.refl _ _).alloc (Nat.le_refl _) (.cells #[.int .i64 op, .int .i64 X, .int .i64 B, .int .u64 K, .slice P L.length cc] 50))
    have HB3 := HB.out.alloc (Nat.le_of_lt HO.out.lt) (.cells #[.int .i64 op, .int .i64 X, .int .i64 B, .int .u64 K, .slice P L.length cc] 50)
    have hq1 : w2.heap.size ≠ w.heap.size := Nat.ne_of_gt HO.out.lt
    have hq2 : w2.heap.size ≠ w.heap.size + 1 := Nat.ne_of_gt r0
    clear rc0 rc1 rc2 rf0 rf1 rf2 r0 HR HO HW HB HB1
    generalize w2.alloc (.cells #[.int .i64 op, .int .i64 X, .int .i64 B, .int .u64 K, .slice P L.length cc] 50) = w3 at *
    generalize w2.heap.size = q at *
    have hq3 := Ne.symm hq1
    have hq4 := Ne.symm hq2
    have HB4 := Lib.hid HB3
    have HW4 := Lib.hid HW3
    obtain ⟨r0, rc0, rc1, rc2, rf0, rf1, rf2⟩ := HR3
    obtain ⟨o0, oc0, oc1, oc2, oc3, oc4, of0, of1, of2, of3, of4⟩ := HO3
    obtain ⟨i0, ic0, ic1, ic2, ic3, ic4, if0, if1, if2, if3, if4⟩ := HI3
    clear HB3 HW3
    go_region
    all_goals go_wp2_with fail
    all_goals (
      have hb := (((((HB4.out.setCell (p := ⟨w.heap.size, 0, none⟩) (Nat.le_refl _) (.int .i64 0)).setCell (p := ⟨w.heap.size, 1, none⟩) (Nat.le_refl _) (.int .i64 0)).setCell (p := ⟨w.heap.size, 2, none⟩) (Nat.le_refl _) (.int .i64 0)).setCell (p := ⟨w.heap.size, 3, none⟩) (Nat.le_refl _) (.int .u64 0)).setCell (p := ⟨w.heap.size, 4, none⟩) (Nat.le_refl _) (.slice none 0 0))
      refine bodyPost_ret (v := .tuple #[NoIns, .int .i64 0, .int .i64 e]) (by simp [NoIns, results, Tryd.results34, go_sem, oc0, oc1, oc2, oc3, oc4]) rfl ⟨_, rfl, ownI_nil _ _, hb.trans ((drewB _).mono hb.size)⟩)
/-- What stands at a place, by the document. -/
def rdo (l : List Int) (at_ : Int) : Ins × Int × Int :=
  if at_ < 0 ∨ (l.length : Int) < at_ then (⟨0, 0, 0, 0, []⟩, 0, 1)
  else if (ri l at_.toNat 0).2.2 = 0 then ((ri l at_.toNat 0).1, ((ri l at_.toNat 0).2.1 : Nat), 0) else (⟨0, 0, 0, 0, []⟩, 0, (ri l at_.toNat 0).2.2)
theorem rread_any {v : Value} {l : List Int} {w : World} (at_ : Int) (hs : Sl w v l) (hb : ∀ x ∈ l, 0 ≤ x ∧ x < 256) (hl : l.length ≤ 1000000) : Calls Tryd.prog 34 #[v, .int .i64 at_] w (RiTold (rdo l at_) w) := by
  obtain ⟨A, c, hv, _⟩ := id hs
  subst hv
  unfold rdo
  by_cases h0 : at_ < 0
  · rw [if_pos (.inl h0)]
    exact (rread_low A _ c at_ w (decide_eq_true h0)).mono fun e w' ⟨k1, k2⟩ => ⟨_, k1, ownI_nil _ _, k2⟩
  · by_cases h1 : (l.length : Int) < at_
    · rw [if_pos (.inr h1)]
      exact (rread_high A _ c at_ w (decide_eq_false h0) (decide_eq_true h1)).mono fun e w' ⟨k1, k2⟩ => ⟨_, k1, ownI_nil _ _, k2⟩
    · rw [if_neg (by omega)]
      obtain ⟨a, rfl⟩ : ∃ a : Nat, at_ = (a : Int) := ⟨at_.toNat, by omega⟩
      rw [Int.toNat_natCast]
      have hR : ∀ W, Below w.heap.size w W → RdAt W (w.heap.size + 1) (.slice A l.length c) (a : Int) 0 → Calls Tryd.prog 53 #[.pointer (some ⟨w.heap.size + 1, 0, none⟩)] W (InsTold (.slice A l.length c) (w.heap.size + 1) (ri l a 0) W) := fun W hW hrd =>
        instr_any (w0 := w) ⟨hs, hb, hl, by omega, Nat.le_succ _, hW, hrd⟩
      refine rread_core A c a _ l w _ _ _ _ _ _ (decide_eq_false h0) (by simp; omega) _ rfl hR _ ?_
      by_cases he : (ri l a 0).2.2 = 0
      · rw [if_pos he]
        exact .inl ⟨he, rfl⟩
      · rw [if_neg he]
        exact .inr ⟨he, rfl⟩
end Go.Proofs.YtdmidagcdhhlhaaDoor.Ins
