/- ModPLim, ModPLm, ModPSec, ModPW. -/
import Derived.Test.YtffegkjlgeblbaaGreatDoorPkModPList
import Derived.Test.YtffegkjlgeblbaaGreatDoorPkModHi
import Derived.Deep.CutRange
import Derived.Test.YtffegkjlgeblbaaGreatDoorPkTypThere
import Derived.Test.YtffegkjlgeblbaaGreatDoorBodPutP
section
/- The program's reader of modules: limits, and functions' types. -/
namespace Go.Proofs.YtffegkjlgeblbaaGreatDoor.Mdl
open Go.RowKit Ints Typ Ins
set_option maxRecDepth 100000
set_option maxHeartbeats 4000000
set_option linter.unusedVariables false
theorem below_set {B : Nat} {a w : World} (h : Below B a w) {b k : Nat} (hb : B ≤ b) (u : Value) : Below B a (w.setCell ⟨b, k, none⟩ u) := h.setCell (p := ⟨b, k, none⟩) hb u
theorem PAt.far {w : World} {g : Nat} {v : Value} {a : Int} (h : PAt w g v a) {b : Nat} (hb : ¬ b = g) (k : Nat) (u : Value) : PAt (w.setCell ⟨b, k, none⟩ u) g v a := by
  obtain ⟨h0, c0, c1, f0, f1⟩ := h
  have hb2 : ¬ g = b := fun e => hb e.symm
  exact ⟨by simp [World.setCell]; exact h0, by rw [World.cell?_setCell_other (h := by simp)]; exact c0, by rw [World.cell?_setCell_other (h := by simp)]; exact c1, by rw [World.frozen?_setCell]; exact f0, by rw [World.frozen?_setCell]; exact f1⟩
theorem but_new {g : Nat} {w W : World} (h : But g w W) {b : Nat} (hb : w.heap.size ≤ b) (k : Nat) (u : Value) : But g w (W.setCell ⟨b, k, none⟩ u) :=
  ⟨h.os, h.tape, h.output, by simp [World.setCell]; exact h.size, fun j hj hn => by rw [Below.heap_setCell _ _ _ _ (by simp only; omega)]; exact h.block j hj hn⟩
theorem new3 (w : World) (x0 x1 x2 : Value) (t : TypeId) : (w.alloc (.cells #[x0, x1, x2] t)).cell? ⟨w.heap.size, 0, none⟩ = some x0 ∧ (w.alloc (.cells #[x0, x1, x2] t)).cell? ⟨w.heap.size, 1, none⟩ = some x1 ∧ (w.alloc (.cells #[x0, x1, x2] t)).cell? ⟨w.heap.size, 2, none⟩ = some x2 :=
  ⟨(Sec.cells_at (Sec.heap_new w _) 0).1, (Sec.cells_at (Sec.heap_new w _) 1).1, (Sec.cells_at (Sec.heap_new w _) 2).1⟩
theorem set3 {w : World} {b : Nat} {z0 z1 z2 : Value} (x0 x1 x2 : Value) (h : w.cell? ⟨b, 0, none⟩ = some z0 ∧ w.cell? ⟨b, 1, none⟩ = some z1 ∧ w.cell? ⟨b, 2, none⟩ = some z2) :
    (((w.setCell ⟨b, 0, none⟩ x0).setCell ⟨b, 1, none⟩ x1).setCell ⟨b, 2, none⟩ x2).cell? ⟨b, 0, none⟩ = some x0 ∧ (((w.setCell ⟨b, 0, none⟩ x0).setCell ⟨b, 1, none⟩ x1).setCell ⟨b, 2, none⟩ x2).cell? ⟨b, 1, none⟩ = some x1 ∧
      (((w.setCell ⟨b, 0, none⟩ x0).setCell ⟨b, 1, none⟩ x1).setCell ⟨b, 2, none⟩ x2).cell? ⟨b, 2, none⟩ = some x2 := by
  obtain ⟨h0, h1, h2⟩ := h
  refine ⟨?_, ?_, ?_⟩
  · rw [World.cell?_setCell_other (h := by simp), World.cell?_setCell_other (h := by simp)]
    exact World.cell?_setCell_same _ _ _ h0
  · rw [World.cell?_setCell_other (h := by simp)]
    refine World.cell?_setCell_same _ _ _ (u := z1) ?_
    rw [World.cell?_setCell_other (h := by simp)]
    exact h1
  · refine World.cell?_setCell_same _ _ _ (u := z2) ?_
    rw [World.cell?_setCell_other (h := by simp), World.cell?_setCell_other (h := by simp)]
    exact h2
theorem past3 {w w1 : World} {z0 z1 z2 : Value} {o : Obj} {t : TypeId} (hb : Below ((w.alloc o).alloc (.cells #[z0, z1, z2] t)).drew.heap.size ((w.alloc o).alloc (.cells #[z0, z1, z2] t)).drew w1) : w1.cell? ⟨w.heap.size + 1, 0, none⟩ = some z0 ∧ w1.cell? ⟨w.heap.size + 1, 1, none⟩ = some z1 ∧ w1.cell? ⟨w.heap.size + 1, 2, none⟩ = some z2 := by
  have h := new3 (w.alloc o) z0 z1 z2 t
  rw [Sec.size_new1] at h
  have hl : w.heap.size + 1 < ((w.alloc o).alloc (.cells #[z0, z1, z2] t)).drew.heap.size := by show _ < ((w.alloc o).alloc _).heap.size; simp
  exact ⟨(hb.cell (p := ⟨w.heap.size + 1, 0, none⟩) hl).trans h.1, (hb.cell (p := ⟨w.heap.size + 1, 1, none⟩) hl).trans h.2.1, (hb.cell (p := ⟨w.heap.size + 1, 2, none⟩) hl).trans h.2.2⟩
theorem fz_new (w : World) (xs : Array Value) (t : TypeId) (k : Nat) : (w.alloc (.cells xs t)).frozen? ⟨w.heap.size, k, none⟩ = false := (Sec.cells_at (Sec.heap_new w (.cells xs t)) k).2
def LimEnds (g : Nat) (v : Value) (x y : Int) (z : Bool) (p E : Int) (w : World) (en : Ending) (w' : World) : Prop := (E = 0 ∧ en = .returned (.agg #[.int .i64 x, .int .i64 y, .bool z]) ∧ PAt w' g v p ∨ E ≠ 0 ∧ en = .panicked (flt E)) ∧ But g w w'
theorem LimEnds.no {g : Nat} {v : Value} {x y : Int} {z : Bool} {p E : Int} {w w' : World} (h : E ≠ 0) (hb : But g w w') : LimEnds g v x y z p E w (.panicked (flt E)) w' := ⟨.inr ⟨h, rfl⟩, hb⟩
theorem mlim_core (g : Nat) (A : Option Addr) (n c : Nat) (a p E : Int) (x y : Int) (z : Bool) (w : World) (hR : PAt w g (.slice A n c) a)
    (h : ∀ W, Below w.heap.size w W → Calls Tryz.prog 180 #[.slice A n c, .int .i64 a] W (fun en w' => en = .returned (.tuple #[.agg #[.int .i64 x, .int .i64 y, .bool z], .int .i64 p, .int .i64 E]) ∧ Below W.heap.size W w')) :
    Calls Tryz.prog 125 #[.pointer (some ⟨g, 0, none⟩)] w (LimEnds g (.slice A n c) x y z p E w) := by
  have HC := Lib.hid h
  have HR := Lib.hid hR
  clear h hR
  have HA := Lib.hid ((Below.refl w.heap.size w).alloc (Nat.le_refl _) (.cells #[.int .i64 0, .int .i64 0, .bool false] 61))
  have HR1 := Lib.hid (HR.out.keep HA.out)
  have HG : Hid (g < w.heap.size) := Lib.hid HR.out.lt
  have HF0 := Lib.hid fun k => fz_new w #[.int .i64 0, .int .i64 0, .bool false] 61 k
  by_cases hE : E = 0
  · subst hE
    go_enter Tryz.func125, Tryz.ntmps125
    go_wp2_with fail
    obtain ⟨h0, c0, c1, f0, f1⟩ := HR1.out
    have c0' := Lib.cell?_alloc_some (.cells #[.int .i64 0, .int .i64 0, .bool false] 61) c0
    have c1' := Lib.cell?_alloc_some (.cells #[.int .i64 0, .int .i64 0, .bool false] 61) c1
    go_cut [3, 4, 5] from 3 to 18 (fun t3 t4 t5 wx => ∃ b3, t3 = .pointer (some ⟨b3, 0, none⟩) ∧ t4 = .int .i64 p ∧ t5 = .int .i64 0 ∧ (wx.cell? ⟨b3, 0, none⟩ = some (.int .i64 x) ∧ wx.cell? ⟨b3, 1, none⟩ = some (.int .i64 y) ∧ wx.cell? ⟨b3, 2, none⟩ = some (.bool z)) ∧ w.heap.size < b3 ∧ Below (w.heap.size + 1) (w.alloc (.cells #[.int .i64 0, .int .i64 0, .bool false] 61)) wx)
    case first =>
      go_region_law (go_simp; go_at_call 180; refine (HC.out _ (by first | exact HA.out.drew | exact (HA.out.alloc HA.out.size _).drew)).mono ?_; rintro en w1 ⟨rfl, hb1⟩; obtain ⟨hc1, hf1⟩ := bcell hb1)
      all_goals (
        have hz : w.heap.size + 1 ≤ w1.heap.size := by have := hb1.size; simp at this; omega
        have HB1 : Hid (Below (w.heap.size + 1) (w.alloc (.cells #[.int .i64 0, .int .i64 0, .bool false] 61)) w1) := Lib.hid (by first | exact ((below_drew1 (w.alloc (.cells #[.int .i64 0, .int .i64 0, .bool false] 61))).trans hb1).mono (by simp) | exact ((((Below.refl (w.heap.size + 1) (w.alloc (.cells #[.int .i64 0, .int .i64 0, .bool false] 61))).alloc (by simp) (.cells #[.int .i64 0, .int .i64 0, .bool false] 61)).drew).trans (hb1.mono (by simp))))
        go_wp2_with fail
        go_meet
        case rel =>
          first
          | exact ⟨_, rfl, rfl, rfl, new3 _ _ _ _ _, hz, HB1.out.alloc hz _⟩
          | exact ⟨_, rfl, rfl, rfl, set3 _ _ _ (past3 hb1), Nat.lt_succ_self _, below_set (below_set (below_set HB1.out (Nat.le_refl _) _) (Nat.le_refl _) _) (Nat.le_refl _) _⟩)
    case rest =>
      obtain ⟨b3, rfl, rfl, rfl, hk, hb3, hW⟩ := hcut
      obtain ⟨k0, k1, k2⟩ := hk
      have HR2 := Lib.hid (HR1.out.keep (hW.mono (by simp)))
      have HW2 := Lib.hid hW
      have d0 : wc.frozen? ⟨w.heap.size, 0, none⟩ = false := by rw [hW.frozen (p := ⟨w.heap.size, 0, none⟩) (Nat.lt_succ_self _)]; exact HF0.out 0
      have d1 : wc.frozen? ⟨w.heap.size, 1, none⟩ = false := by rw [HW2.out.frozen (p := ⟨w.heap.size, 1, none⟩) (Nat.lt_succ_self _)]; exact HF0.out 1
      have d2 : wc.frozen? ⟨w.heap.size, 2, none⟩ = false := by rw [HW2.out.frozen (p := ⟨w.heap.size, 2, none⟩) (Nat.lt_succ_self _)]; exact HF0.out 2
      have z0 : wc.cell? ⟨w.heap.size, 0, none⟩ = some (.int .i64 0) := by rw [HW2.out.cell (p := ⟨w.heap.size, 0, none⟩) (Nat.lt_succ_self _)]; exact (Sec.cells_at (Sec.heap_new w _) 0).1
      have z1 : wc.cell? ⟨w.heap.size, 1, none⟩ = some (.int .i64 0) := by rw [HW2.out.cell (p := ⟨w.heap.size, 1, none⟩) (Nat.lt_succ_self _)]; exact (Sec.cells_at (Sec.heap_new w _) 1).1
      have z2 : wc.cell? ⟨w.heap.size, 2, none⟩ = some (.bool false) := by rw [HW2.out.cell (p := ⟨w.heap.size, 2, none⟩) (Nat.lt_succ_self _)]; exact (Sec.cells_at (Sec.heap_new w _) 2).1
      have hg := HG.out
      have e1 : ¬ g = b3 := by omega
      have e3 : ¬ w.heap.size = b3 := by omega
      have e4 : ¬ g = w.heap.size := by omega
      have e5 : ¬ b3 = g := by omega
      have e7 : ¬ b3 = w.heap.size := by omega
      have e8 : ¬ w.heap.size = g := by omega
      clear c0 c1 f0 f1 h0 c0' c1' hW
      obtain ⟨h0, c0, c1, f0, f1⟩ := HR2.out
      go_wp2_with fail
      refine (must_ok _).mono ?_
      rintro en w2 ⟨rfl, rfl⟩
      go_wp2_with fail
      exact bodyPost_ret (v := .agg #[.int .i64 x, .int .i64 y, .bool z]) (by simp [results, Tryz.results125, go_sem, z0, z1, z2]) rfl (⟨.inl ⟨rfl, rfl, (((HR2.out.set1 _).far e8 _ _).far e8 _ _).far e8 _ _⟩, but_new (but_new (but_new ((But.of_below (HA.out.trans (HW2.out.mono (Nat.le_succ _)))).setCell (p := ⟨g, 1, none⟩) rfl _) (Nat.le_refl _) _ _) (Nat.le_refl _) _ _) (Nat.le_refl _) _ _⟩)
  · have HE := Lib.hid hE
    clear hE
    go_enter Tryz.func125, Tryz.ntmps125
    go_wp2_with fail
    obtain ⟨h0, c0, c1, f0, f1⟩ := HR1.out
    have c0' := Lib.cell?_alloc_some (.cells #[.int .i64 0, .int .i64 0, .bool false] 61) c0
    have c1' := Lib.cell?_alloc_some (.cells #[.int .i64 0, .int .i64 0, .bool false] 61) c1
    go_region_law (go_simp; go_at_call 180; refine (HC.out _ (by first | exact HA.out.drew | exact (HA.out.alloc HA.out.size _).drew)).mono ?_; rintro en w1 ⟨rfl, hb1⟩; obtain ⟨hc1, hf1⟩ := bcell hb1)
    all_goals (
      have hz : w.heap.size + 1 ≤ w1.heap.size := by have := hb1.size; simp at this; omega
      have HB1 : Hid (Below (w.heap.size + 1) (w.alloc (.cells #[.int .i64 0, .int .i64 0, .bool false] 61)) w1) := Lib.hid (by first | exact ((below_drew1 (w.alloc (.cells #[.int .i64 0, .int .i64 0, .bool false] 61))).trans hb1).mono (by simp) | exact ((((Below.refl (w.heap.size + 1) (w.alloc (.cells #[.int .i64 0, .int .i64 0, .bool false] 61))).alloc (by simp) (.cells #[.int .i64 0, .int .i64 0, .bool false] 61)).drew).trans (hb1.mono (by simp))))
      go_wp2_with fail
      refine (must_no E HE.out _).mono ?_
      rintro en w2 ⟨rfl, hw2⟩
      exact bodyPost_pan rfl (LimEnds.no HE.out (But.of_below (HA.out.trans (Below.mono (by rw [hw2]; repeat (first | exact HB1.out | refine below_set ?_ (Nat.le_refl _) _ | refine Below.alloc ?_ hz _) : Below (w.heap.size + 1) (w.alloc (.cells #[.int .i64 0, .int .i64 0, .bool false] 61)) w2) (by omega))))))
end Go.Proofs.YtffegkjlgeblbaaGreatDoor.Mdl
end

section
/- Limits, read by the program: what is told fits; the contract in the list's words. -/
namespace Go.Proofs.YtffegkjlgeblbaaGreatDoor.Mdl
open Go.RowKit Ints Typ Ins
set_option maxRecDepth 100000
set_option maxHeartbeats 1000000
set_option linter.unusedVariables false
theorem rdl_good {l : List Int} {k n j : Nat} (hb : ∀ x ∈ l, 0 ≤ x ∧ x < 256) (h : Leb.rdl Leb.fitU 32 (l.drop k) 0 0 = .ok n j) : n < 4294967296 ∧ 1 ≤ j / 7 := by
  have h1 := (rdl32 (fun x hx => hb x (List.mem_of_mem_drop hx)) h).1
  have h2 := Typ.rdl_one _ _ _ _ _ h
  omega
theorem lm_good {l : List Int} (hb : ∀ x ∈ l, 0 ≤ x ∧ x < 256) {a : Nat} (h : (lm l a).2.2.2.2 = 0) : okL (lm l a).1 (lm l a).2.1 (lm l a).2.2.1 = true ∧ (a : Int) ≤ (lm l a).2.2.2.1 ∧ (lm l a).2.2.2.1 ≤ (l.length : Int) := by
  have hle := lm_le l a
  refine ⟨?_, ?_, hle⟩ <;> clear hle
  all_goals (
    unfold lm at h ⊢
    split at h
    · rename_i h1; exact absurd h h1
    rename_i h1
    rw [if_neg h1]
    split at h
    · exact absurd h (by decide)
    rename_i h2
    rw [if_neg h2]
    rw [Int.toNat_natCast] at h ⊢
    unfold lm1 at h ⊢
    cases hr : Leb.rdl Leb.fitU 32 (l.drop (a + 1)) 0 0 with
    | short => rw [hr] at h; exact absurd (show (2 : Int) = 0 from h) (by decide)
    | form => rw [hr] at h; exact absurd (show (3 : Int) = 0 from h) (by decide)
    | ok n j =>
      rw [hr] at h
      obtain ⟨g1, g2⟩ := rdl_good hb hr
      simp only at h ⊢
      split at h
      · rename_i h3
        rw [if_pos h3]
        first
        | (exact okL_iff.2 ⟨by simp only; omega, by simp only; omega, by simp only; omega, by simp only; omega, fun _ => rfl⟩)
        | (simp only; omega)
      · rename_i h3
        rw [if_neg h3]
        unfold lm2 at h ⊢
        cases hr2 : Leb.rdl Leb.fitU 32 (l.drop (a + 1 + j / 7)) 0 0 with
        | short => rw [hr2] at h; exact absurd (show (2 : Int) = 0 from h) (by decide)
        | form => rw [hr2] at h; exact absurd (show (3 : Int) = 0 from h) (by decide)
        | ok m j2 =>
          obtain ⟨g3, g4⟩ := rdl_good hb hr2
          first
          | (exact okL_iff.2 ⟨by simp only; omega, by simp only; omega, by simp only; omega, by simp only; omega, fun h => (by cases h)⟩)
          | (simp only; omega))
theorem w64_in {x : Int} (h : -9223372036854775808 ≤ x) (h2 : x ≤ 9223372036854775807) : w64 x := by
  unfold w64
  have h1 : IntKind.i64.min = -9223372036854775808 := by decide
  have h2' : IntKind.i64.max = 9223372036854775807 := by decide
  simp [Lit.wf]
  omega
abbrev limV : LimT → Value := fun p : LimT => .agg #[.int .i64 p.1, .int .i64 p.2.1, .bool p.2.2]
theorem plim_m {w0 w : World} {v : Value} {l : List Int} {g a : Nat} (h : PRd w0 v l g w a) :
    Calls Tryz.prog 125 #[.pointer (some ⟨g, 0, none⟩)] w (OneTold elL (fun p => p) v g (rlimM l a 0) limV w) := by
  obtain ⟨A, c, hv, _⟩ := id h.bytes
  subst hv
  have hC : ∀ W, Below w.heap.size w W → Calls Tryz.prog 180 #[.slice A l.length c, .int .i64 (a : Int)] W (fun en w' => en = .returned (.tuple #[.agg #[.int .i64 (lm l a).1, .int .i64 (lm l a).2.1, .bool (lm l a).2.2.1], .int .i64 (lm l a).2.2.2.1, .int .i64 (lm l a).2.2.2.2]) ∧ Below W.heap.size W w') :=
    fun W hW => (lim_any _ l a W h.by_ (h.bytes.keep hW) h.len).mono fun en w' k => k
  refine (mlim_core g A _ c a _ _ _ _ _ w h.rd hC).mono fun en w' k => ?_
  obtain ⟨k1, k2⟩ := k
  refine ⟨?_, k2⟩
  rcases k1 with ⟨e1, e2, e3⟩ | ⟨e1, e2⟩
  · obtain ⟨g1, g2, g3⟩ := lm_good h.by_ e1
    obtain ⟨o1, o2, o3, o4, _⟩ := okL_iff.1 g1
    refine .inl ⟨e1, ⟨((lm l a).1, (lm l a).2.1, (lm l a).2.2.1), e2, Hi.of ⟨w64_in (by simp only; omega) (by simp only; omega), w64_in (by simp only; omega) (by simp only; omega)⟩, rfl⟩, ?_⟩
    have : ((rlimM l a 0).2.1 : Int) = (lm l a).2.2.2.1 := by
      show ((nx a (lm l a).2.2.2.1 : Nat) : Int) = _
      unfold nx
      omega
    rw [this]
    exact e3
  · exact .inr ⟨e1, e2⟩
theorem rlim_at {l : List Int} {a : Nat} (ha : a ≤ l.length) (h : (rlimM l a 0).2.2 = 0) : (rlimM l a 0).2.1 ≤ l.length := by
  show nx a (lm l a).2.2.2.1 ≤ _
  exact nx_le ha (lm_le l a)
end Go.Proofs.YtffegkjlgeblbaaGreatDoor.Mdl
end

section
/- Sections, by the program's reader: walked. -/
namespace Go.Proofs.YtffegkjlgeblbaaGreatDoor.Mdl
open Go.RowKit Ints Typ Ins
set_option maxRecDepth 100000
set_option maxHeartbeats 4000000
set_option linter.unusedVariables false
structure AgP (B : Nat) (w w' : World) : Prop where
  size : w.heap.size ≤ w'.heap.size
  block : ∀ k, B ≤ k → k < w.heap.size → w'.heap[k]? = w.heap[k]?
theorem AgP.refl (B : Nat) (w : World) : AgP B w w := ⟨Nat.le_refl _, fun _ _ _ => rfl⟩
theorem AgP.trans {B : Nat} {a b c : World} (h : AgP B a b) (k : AgP B b c) : AgP B a c := ⟨Nat.le_trans h.size k.size, fun i hi hlt => (k.block i hi (Nat.lt_of_lt_of_le hlt h.size)).trans (h.block i hi hlt)⟩
def HiP (B : Nat) (w : World) (P : World → Prop) : Prop := ∀ w', AgP B w w' → P w'
theorem HiP.now {B : Nat} {w : World} {P : World → Prop} (h : HiP B w P) : P w := h w (AgP.refl _ _)
theorem HiP.step {B : Nat} {w w' : World} {P : World → Prop} (h : HiP B w P) (k : AgP B w w') : HiP B w' P := fun w'' k' => h w'' (k.trans k')
theorem HiP.low {B B' : Nat} {w : World} {P : World → Prop} (h : HiP B' w P) (hB : B ≤ B') : HiP B w P := fun w' k => h w' ⟨k.size, fun i hi hl => k.block i (by omega) hl⟩
theorem row_hi {α : Type} {T : RowG.El α} {w : World} {B : Nat} {v : Value} {l : List α} (h : RowG.Own T w B v l) (hk : ∀ p ∈ l, Hi B T.e w (fun W => T.ok W p)) : HiP B w (fun W => RowG.Row T W v l) := by
  intro w' a
  refine RowG.Own.row (B := B) ?_ (fun p hp => hk p hp w' ⟨a.size, fun k h1 h2 _ => a.block k h1 h2⟩)
  obtain ⟨h1, h2⟩ := h
  refine ⟨h1, ?_⟩
  rcases h2 with h2 | ⟨g, cap, cur, hv, hB, hc, hr⟩
  · exact .inl h2
  · exact .inr ⟨g, cap, cur, hv, hB, by rw [a.block g hB (Array.getElem?_eq_some_iff.1 hc).1]; exact hc, hr⟩
structure But2 (g h : Nat) (w w' : World) : Prop where
  os : w'.os = w.os
  tape : w'.tape = w.tape
  output : w'.output = w.output
  size : w.heap.size ≤ w'.heap.size
  block : ∀ k, k < w.heap.size → k ≠ g → k ≠ h → w'.heap[k]? = w.heap[k]?
theorem But2.of {g h : Nat} {w w' : World} (b : But g w w') : But2 g h w w' := ⟨b.os, b.tape, b.output, b.size, fun k hk hg _ => b.block k hk hg⟩
theorem But2.set {g h : Nat} {w w' : World} (b : But2 g h w w') (k : Nat) (u : Value) : But2 g h w (w'.setCell ⟨h, k, none⟩ u) :=
  ⟨b.os, b.tape, b.output, by simp [World.setCell]; exact b.size, fun i hi hg hh => by rw [Below.heap_setCell _ _ _ _ (by simpa using hh)]; exact b.block i hi hg hh⟩
def STurn (v : Value) (g gm : Nat) (cs : Array Value) (k : Nat) (P : Value → Nat → World → Prop) (a : Nat) (e : Int) (w : World) (en : Ending) (w' : World) : Prop :=
  (e = 0 ∧ (∃ u, en = .returned (.tuple #[]) ∧ w'.heap[gm]? = some (.cells (cs.set! k u) 34 (0, 0)) ∧ P u w.heap.size w') ∧ PAt w' g v (a : Int) ∨ e ≠ 0 ∧ en = .panicked (flt e)) ∧ But2 g gm w w'
theorem heap_setCell_in {w : World} {g k : Nat} {cs : Array Value} {t : TypeId} (h : w.heap[g]? = some (.cells cs t (0, 0))) (u : Value) : (w.setCell ⟨g, k, none⟩ u).heap[g]? = some (.cells (cs.set! k u) t (0, 0)) := by
  have := heap_setCell_same w g k cs t u h
  simpa [Array.set!] using this
theorem LTold.ways {α β : Type} {T : RowG.El α} {pl : α → β} {v : Value} {g : Nat} {q : List β × Nat × Int} {w w' : World} {en : Ending} (h : LTold T pl v g q w en w') :
    (∃ u l, q.2.2 = 0 ∧ en = .returned u ∧ RowG.Own T w' w.heap.size u l ∧ (∀ p ∈ l, Hi w.heap.size T.e w' (fun W => T.ok W p)) ∧ l.map pl = q.1 ∧ PAt w' g v (q.2.1 : Int) ∧ But g w w') ∨ (q.2.2 ≠ 0 ∧ en = .panicked (flt q.2.2) ∧ But g w w') := by
  obtain ⟨⟨h1, ⟨u, l, h2, h3, h4, h5⟩, h6⟩ | ⟨h1, h2⟩, hb⟩ := h
  · exact .inl ⟨u, l, h1, h2, h3, h4, h5, h6, hb⟩
  · exact .inr ⟨h1, h2, hb⟩
theorem psec_5 {w0 w : World} {v : Value} {l : List Int} {g gm : Nat} {cs : Array Value} (h : PRd w0 v l g w 0) (hm : w.heap[gm]? = some (.cells cs 34 (0, 0))) (hcs : cs.size = 11) (hgm : gm < g)
    (hlist : Calls Tryz.prog 123 #[.pointer (some ⟨g, 0, none⟩), .int .i64 32, .func (.func 125) #[.pointer (some ⟨g, 0, none⟩)] #[]] w (LTold elL (fun p => p) v g (manyM 32 rlimM l 0 0) w)) :
    Calls Tryz.prog 71 #[.pointer (some ⟨g, 0, none⟩), .pointer (some ⟨gm, 0, none⟩), .int .i64 5] w
      (STurn v g gm cs 4 (fun u B W => ∃ L, HiP B W (fun W' => RowG.Row elL W' u L) ∧ L = (manyM 32 rlimM l 0 0).1) (manyM 32 rlimM l 0 0).2.1 (manyM 32 rlimM l 0 0).2.2 w) := by
  have HL := Lib.hid hlist
  have HM := Lib.hid hm
  have HGM := Lib.hid hgm
  have HMS : Hid (gm < w.heap.size) := Lib.hid (Array.getElem?_eq_some_iff.1 hm).1
  have HCS := Lib.hid hcs
  obtain ⟨q, hq⟩ : ∃ q, manyM 32 rlimM l 0 0 = q := ⟨_, rfl⟩
  rw [hq] at HL ⊢
  clear hlist hm hgm hq hcs h
  have hmf : ∀ (fn : Fn) (first cap : Array Value) (w : World), (Instr.makeFunc fn first cap).run Tryz.prog w = .ok (.func fn first cap) w := fun _ _ _ _ => rfl
  go_enter Tryz.func71, Tryz.ntmps71
  go_wp2_with fail
  refine HL.out.mono ?_
  intro en w1 hq
  rcases hq.ways with ⟨u, L, he, rfl, ho, hh, hp, hr, hb⟩ | ⟨he, rfl, hb⟩
  · have hm1 : w1.heap[gm]? = some (.cells cs 34 (0, 0)) := by rw [hb.block gm HMS.out (by have := HGM.out; omega)]; exact HM.out
    have HM1 := Lib.hid hm1
    have x1 : ∃ z, w1.cell? ⟨gm, 4, none⟩ = some z := ⟨cs[4]'(by rw [HCS.out]; decide), by rw [(Sec.cells_at hm1 4).1]; simp [HCS.out]⟩
    obtain ⟨z, x1⟩ := x1
    have x2 : w1.frozen? ⟨gm, 4, none⟩ = false := (Sec.cells_at hm1 4).2
    obtain ⟨Pu, cu, rfl⟩ := ho.form
    obtain ⟨nu, hnu⟩ : ∃ k, L.length = k := ⟨_, rfl⟩
    have HNU := Lib.hid hnu
    rw [hnu] at ho ⊢
    clear hnu
    have HO := Lib.hid ho
    have HH := Lib.hid hh
    have HPL := Lib.hid hp
    have HR := Lib.hid hr
    have HB := Lib.hid hb
    have HE := Lib.hid he
    clear hq ho hh hp hr hb he hm1
    go_wp2_with fail
    refine bodyPost_end (v := .tuple #[]) (by simp [results, Tryz.results71, go_sem]) rfl ?_
    refine ⟨.inl ⟨HE.out, ⟨_, rfl, heap_setCell_in HM1.out _, L, ?_, by rw [← HPL.out]; simp⟩, HR.out.far (by have := HGM.out; omega) _ _⟩, (But2.of HB.out).set _ _⟩
    exact (row_hi HO.out HH.out).step ⟨by simp [World.setCell], fun k hk hlt => Below.heap_setCell _ _ _ _ (by have := HMS.out; simp only; omega)⟩
  · exact bodyPost_pan rfl ⟨.inr ⟨he, rfl⟩, But2.of hb⟩
end Go.Proofs.YtffegkjlgeblbaaGreatDoor.Mdl
end

section
/- The program's writer of modules: what it keeps, need, put, number. -/
namespace Go.Proofs.YtffegkjlgeblbaaGreatDoor.Mdl
open Go.RowKit Ints Typ Ins
set_option maxRecDepth 100000
set_option maxHeartbeats 4000000
set_option linter.unusedVariables false
theorem run_byW (w : World) (ty : TypeId) (B : Nat) (v : Value) (done l : List Int) (hown : OwnB w B v done) (A : Option Addr) (c : Nat) (hl : Sl w (.slice A l.length c) l) (hlen : done.length + l.length ≤ 10000000) (hB : B ≤ w.heap.size) :
    ∃ v' w', (Builtin.append_ #[22, 22] ty #[v, .slice A l.length c]).run Tryz.prog w = .ok v' w' ∧ OwnB w' B v' (done ++ l) ∧ Below B w w' ∧ ∀ k, k < w.heap.size → some k ≠ v.ownBlock → w'.heap[k]? = w.heap[k]? := by
  obtain ⟨i0, hi, hz0, hz1, hz2⟩ := info_parts byte_info
  rcases A with _ | ad
  · have hl0 : l = [] := by
      rcases l with _ | ⟨x, l⟩
      · rfl
      · obtain ⟨A, c', h1, _, _, h4⟩ := hl
        obtain ⟨g, off, e, _⟩ := h4 (by simp)
        injection h1 with e1
        rw [e] at e1
        cases e1
    subst hl0
    refine ⟨v, w, ?_, by simpa using hown, Below.refl _ _, fun _ _ _ => rfl⟩
    have hu := Tryz.underlying22
    obtain ⟨h1, h2⟩ := hown
    rcases h2 with ⟨e, hn⟩ | ⟨g', cp', cur, e, _, _, hn, _⟩
    · subst e
      simp [Builtin.append_, run_underlying hu, sizeOf, typeInfo, hi, Builtin.lenOf, Builtin.firstCells]
    · subst e
      simp [Builtin.append_, run_underlying hu, sizeOf, typeInfo, hi, Builtin.lenOf, Builtin.firstCells, hn, storeCells]
  · obtain ⟨v', w', hr, h1, h2, h3⟩ := run_append_own (P := Tryz.prog) w B 22 ty 5 i0 (.int .u8 0) 1 1 Tryz.underlying22 hi hz0 hz1 hz2 rfl (by decide) v _ _ hown ad l.length c (vb l) (by simp [vb]) (Bod.byt_cells hl) (vb_oneCell l) (by simp only [maxLen]; omega) (by omega) hB
    refine ⟨v', w', hr, ?_, (Below.refl _ _).grown h2 (by omega) (fun k hk => (World.ownsRow.lt hown k hk).1), fun k hk hne => h2.block k hk hne⟩
    have h1' : w'.ownsRow B 5 1 v' (done ++ l).length (vb (done ++ l)) := by rw [show vb (done ++ l) = vb done ++ vb l from by simp [vb], List.length_append]; exact h1
    exact h1'
theorem wp_byW {ops : Array Oper} {rest : List Oper} {o : Oper} {a : Act} {Q : Exit → Act → World → Prop} (w : World) (hgd : o.guard = none) (s x : Operand)
    (ho : o.op = .call { callee := .builtin .append, args := #[s, x], argTypes := #[22, 22] }) (B : Nat) (v : Value) (done l : List Int) (hs : a.eval s = v) (hown : OwnB w B v done)
    (A : Option Addr) (c : Nat) (hx : a.eval x = .slice A l.length c) (hl : Sl w (.slice A l.length c) l) (hlen : done.length + l.length ≤ 10000000) (hB : B ≤ w.heap.size)
    (h : ∀ v' w', OwnB w' B v' (done ++ l) → Below B w w' → (∀ k, k < w.heap.size → some k ≠ v.ownBlock → w'.heap[k]? = w.heap[k]?) → wpList Tryz.prog ops Q rest (a.put o.dst v') w') : wpList Tryz.prog ops Q (o :: rest) a w := by
  refine wpList_plain hgd fun K hK => ?_
  obtain ⟨v', w', hr, h1, h2, h3⟩ := run_byW w o.type B v done l hown A c hl hlen hB
  unfold Oper.wp
  simp only [execOp, ho, resolve, invoke, builtin, Sem.run_bind, Sem.run_pure, Result.andThen_ok, List.map_toArray, List.map_cons, List.map_nil, hs, hx, hr]
  exact hK _ _ (h v' w' h1 h2 h3)
structure WS (w : World) (g : Nat) (b : List Int) (bad : Bool) : Prop where
  is : ∃ P c, w.heap[g]? = some (.cells #[.slice P b.length c, .bool bad] 148 (0, 0)) ∧ OwnB w (g + 1) (.slice P b.length c) b
  le : b.length ≤ 65536
structure WFr (g : Nat) (w w' : World) : Prop where
  os : w'.os = w.os
  tape : w'.tape = w.tape
  output : w'.output = w.output
  size : w.heap.size ≤ w'.heap.size
  low : ∀ k, k < g → w'.heap[k]? = w.heap[k]?
  high : ∀ k, g < k → k < w.heap.size → tyOf w k ≠ some 5 → w'.heap[k]? = w.heap[k]?
theorem WFr.refl (g : Nat) (w : World) : WFr g w w := ⟨rfl, rfl, rfl, Nat.le_refl _, fun _ _ => rfl, fun _ _ _ _ => rfl⟩
theorem WFr.trans {g : Nat} {a b c : World} (h : WFr g a b) (k : WFr g b c) : WFr g a c :=
  ⟨k.os.trans h.os, k.tape.trans h.tape, k.output.trans h.output, Nat.le_trans h.size k.size, fun i hi => (k.low i hi).trans (h.low i hi), fun i hi hl ht => by
    have e := h.high i hi hl ht
    rw [k.high i hi (Nat.lt_of_lt_of_le hl h.size) (by unfold tyOf at ht ⊢; rw [e]; exact ht), e]⟩
theorem WFr.of_below {g : Nat} {w w' : World} (h : Below w.heap.size w w') (hg : g < w.heap.size) : WFr g w w' := ⟨h.os, h.tape, h.output, h.size, fun k hk => h.block k (by omega), fun k _ hk _ => h.block k hk⟩
theorem WFr.setCell {g : Nat} {a w : World} (h : WFr g a w) (k : Nat) (u : Value) : WFr g a (w.setCell ⟨g, k, none⟩ u) :=
  h.trans ⟨rfl, rfl, rfl, by simp [World.setCell], fun i hi => Below.heap_setCell _ _ _ _ (by simp only; omega), fun i hi _ _ => Below.heap_setCell _ _ _ _ (by simp only; omega)⟩
theorem WFr.below {g : Nat} {w w' : World} (h : WFr g w w') : Below g w w' := ⟨h.os, h.tape, h.output, h.size, h.low⟩
theorem WFr.block {g : Nat} {w w' : World} (h : WFr g w w') {k : Nat} {cs : Array Value} {t : TypeId} (hk : w.heap[k]? = some (.cells cs t (0, 0))) (hn : k ≠ g) (ht : t ≠ 5) : w'.heap[k]? = some (.cells cs t (0, 0)) := by
  have hl := (Array.getElem?_eq_some_iff.1 hk).1
  rcases Nat.lt_or_gt_of_ne hn with h1 | h1
  · rw [h.low k h1]; exact hk
  · rw [h.high k h1 hl (by unfold tyOf; rw [hk]; intro e; exact ht (Option.some.inj e))]; exact hk
theorem WS.lt {w : World} {g : Nat} {b : List Int} {bad : Bool} (h : WS w g b bad) : g < w.heap.size := by
  obtain ⟨⟨P, c, h1, _⟩, _⟩ := h
  exact (Array.getElem?_eq_some_iff.1 h1).1
theorem WS.keep {w w' : World} {g : Nat} {b : List Int} {bad : Bool} (h : WS w g b bad) (hb : Below w.heap.size w w') : WS w' g b bad := by
  obtain ⟨⟨P, c, h1, h2⟩, h3⟩ := id h
  exact ⟨⟨P, c, by rw [hb.block g h.lt]; exact h1, h2.keep hb⟩, h3⟩
structure Puts (b : List Int) (bad : Bool) (b' : List Int) (bad' : Bool) (ok : Bool) (x : List Int) : Prop where
  iff : bad' = false ↔ (bad = false ∧ ok = true ∧ b.length + x.length ≤ 65536)
  eq : bad' = false → b' = b ++ x
theorem Puts.trans {b b1 b2 x1 x2 : List Int} {d d1 d2 o1 o2 : Bool} (h : Puts b d b1 d1 o1 x1) (k : Puts b1 d1 b2 d2 o2 x2) : Puts b d b2 d2 (o1 && o2) (x1 ++ x2) := by
  refine ⟨⟨fun e => ?_, fun ⟨e1, e2, e3⟩ => ?_⟩, fun e => ?_⟩
  · obtain ⟨g1, g2, g3⟩ := k.iff.1 e
    obtain ⟨g4, g5, g6⟩ := h.iff.1 g1
    rw [h.eq g1, List.length_append] at g3
    refine ⟨g4, by rw [g5, g2]; rfl, by rw [List.length_append]; omega⟩
  · rw [Bool.and_eq_true] at e2
    rw [List.length_append] at e3
    have g1 := h.iff.2 ⟨e1, e2.1, by omega⟩
    exact k.iff.2 ⟨g1, e2.2, by rw [h.eq g1, List.length_append]; omega⟩
  · obtain ⟨g1, _, _⟩ := k.iff.1 e
    rw [k.eq e, h.eq g1, List.append_assoc]
theorem Puts.stop {b b1 x1 x2 : List Int} {d o1 o2 : Bool} (h : Puts b d b1 true o1 x1) : Puts b d b1 true (o1 && o2) (x1 ++ x2) := by
  refine ⟨⟨fun e => (by cases e), fun ⟨e1, e2, e3⟩ => ?_⟩, fun e => (by cases e)⟩
  rw [Bool.and_eq_true] at e2
  rw [List.length_append] at e3
  have := h.iff.2 ⟨e1, e2.1, by omega⟩
  cases this
theorem Puts.same (b : List Int) (bad : Bool) (hb : b.length ≤ 65536) : Puts b bad b bad true [] := ⟨⟨fun e => ⟨e, rfl, by simpa using hb⟩, fun e => e.1⟩, fun _ => by simp⟩
def WTold (g : Nat) (b : List Int) (bad ok : Bool) (x : List Int) (w : World) (en : Ending) (w' : World) : Prop := ∃ b' bad', en = .returned (.tuple #[]) ∧ WS w' g b' bad' ∧ Puts b bad b' bad' ok x ∧ WFr g w w'
theorem WS.set1 {w : World} {g : Nat} {b : List Int} {bad : Bool} (h : WS w g b bad) (d : Bool) : WS (w.setCell ⟨g, 1, none⟩ (.bool d)) g b d := by
  obtain ⟨⟨P, c, h1, h2⟩, h3⟩ := h
  refine ⟨⟨P, c, by have := heap_setCell_in (k := 1) h1 (.bool d); simpa using this, ?_⟩, h3⟩
  obtain ⟨q1, q2⟩ := h2
  refine ⟨q1, ?_⟩
  rcases q2 with q2 | ⟨g', cap, cur, hv, hB, hc, hr⟩
  · exact .inl q2
  · exact .inr ⟨g', cap, cur, hv, hB, by rw [Below.heap_setCell _ _ _ _ (by simp only; omega)]; exact hc, hr⟩
theorem wneed {w : World} {g : Nat} {b : List Int} {bad : Bool} (ok : Bool) (h : WS w g b bad) :
    Calls Tryz.prog 192 #[.pointer (some ⟨g, 0, none⟩), .bool ok] w fun en w' => en = .returned (.tuple #[]) ∧ w' = w.setCell ⟨g, 1, none⟩ (.bool (bad || !ok)) := by
  obtain ⟨⟨P, c, h1, h2⟩, h3⟩ := h
  have c1 := (Sec.cells_at h1 1).1
  have f1 := (Sec.cells_at h1 1).2
  clear h1 h2 h3
  cases bad <;> cases ok <;> (
    go_enter Tryz.func192, Tryz.ntmps192
    go_wp2_with fail
    exact bodyPost_end (v := .tuple #[]) (by simp [results, Tryz.results192, go_sem]) rfl ⟨rfl, rfl⟩)
end Go.Proofs.YtffegkjlgeblbaaGreatDoor.Mdl
end
