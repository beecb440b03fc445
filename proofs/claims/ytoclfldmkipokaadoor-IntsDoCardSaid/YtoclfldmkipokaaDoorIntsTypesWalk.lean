/- IntsTypes walked: an operator takes one or two just if its shape says so, and gives a value of the type that it says. -/
import Derived.Test.YtoclfldmkipokaaDoorIntsShapeWalk
namespace Go.Proofs.YtoclfldmkipokaaDoor.Ints
open Go.RowKit
set_option maxRecDepth 100000
set_option maxHeartbeats 1000000

theorem fit_in {G y : Int} (hG : isT G) (h : inR G y) : fitT G y = true := by
  rcases hG with rfl | rfl
  · obtain ⟨h0, h1⟩ := inR_32 h
    have : y < 4294967296 := by omega
    simp [fitT, this]
  · simp [fitT]
theorem gv_is {t l : Int} (ht : isT t) : isT (gvT t l) := by
  unfold gvT
  split
  · exact .inl rfl
  · split
    · exact .inr rfl
    · exact ht
theorem opV_in {t l a b : Int} (ht : isT t) (ha : u64R a) (hb : u64R b) : inR (gvT t l) (opV t l a b) := by
  unfold opV
  split
  · rename_i h
    exact loT_in (gv_is ht) (ruV_u ht (okArgs_of ht ha hb h))
  · exact zero_in _
def CallO (op a v : Int) (B : Bool) : Prop := ∀ W, Tab W → Calls Tryd.prog 16 #[.int .i64 op, .int .u64 a] W fun e w' => e = .returned (.tuple #[.int .u64 v, .bool B]) ∧ Below W.heap.size W w'
def CallW (op a b v t : Int) (B : Bool) : Prop := ∀ W, Tab W → Calls Tryd.prog 18 #[.int .i64 op, .int .u64 a, .int .u64 b] W fun e w' => e = .returned (.tuple #[.int .u64 v, .int .i64 t, .bool B]) ∧ Below W.heap.size W w'
def CallF (G y : Int) : Prop := ∀ W, Calls Tryd.prog 20 #[.int .u8 G, .int .u64 y] W fun e w' => e = .returned (.bool true) ∧ W = w'
theorem types_none (op a b : Int) (w : World) (hT : Tab w) (h1 : ShN 14 op) (h2 : CallO op a 0 false) (h3 : CallW op a b 0 0 false) :
    Calls Tryd.prog 6 #[.int .i64 op, .int .u64 a, .int .u64 b] w fun e w' => e = .returned (.bool true) ∧ Below w.heap.size w w' := by
  have HA := Lib.hid awake_any
  have H1 := Lib.hid h1
  have H2 := Lib.hid h2
  have H3 := Lib.hid h3
  have HT := Lib.hid hT
  clear hT h1 h2 h3
  go_enter Tryd.func6, Tryd.ntmps6
  go_wp2_with fail
  refine (HA.out _ HT.out).mono ?_
  rintro e w1 ⟨rfl, b1⟩
  have HT1 := Lib.hid (HT.out.keep b1)
  go_wp2_with fail
  refine (H1.out _).mono ?_
  rintro e w' ⟨rfl, rfl⟩
  go_wp2_with fail
  refine (H2.out _ HT1.out).mono ?_
  rintro e w2 ⟨rfl, b2⟩
  have HT2 := Lib.hid (HT1.out.keep b2)
  go_wp2_with fail
  refine (H3.out _ HT2.out).mono ?_
  rintro e w3 ⟨rfl, b3⟩
  go_wp2_with fail
  go_ret
  have c2 := b1.trans (b2.mono b1.size)
  exact ⟨rfl, c2.trans (b3.mono c2.size)⟩
theorem types_one (op a b T G v : Int) (w : World) (hT : Tab w) (h1 : Sh1 14 op T G) (h2 : CallO op a v true) (h3 : CallW op a b 0 0 false) (h4 : CallF G v) :
    Calls Tryd.prog 6 #[.int .i64 op, .int .u64 a, .int .u64 b] w fun e w' => e = .returned (.bool true) ∧ Below w.heap.size w w' := by
  have HA := Lib.hid awake_any
  have H1 := Lib.hid h1
  have H2 := Lib.hid h2
  have H3 := Lib.hid h3
  have H4 := Lib.hid h4
  have HT := Lib.hid hT
  clear hT h1 h2 h3 h4
  go_enter Tryd.func6, Tryd.ntmps6
  go_wp2_with fail
  refine (HA.out _ HT.out).mono ?_
  rintro e w1 ⟨rfl, b1⟩
  have HT1 := Lib.hid (HT.out.keep b1)
  go_wp2_with fail
  refine (H1.out _).mono ?_
  rintro e w' ⟨rfl, rfl⟩
  have a1 := below_box w1 (.cells #[.int .u8 T] 5)
  have HT1' := Lib.hid (HT1.out.keep a1)
  go_wp2_with fail
  refine (H2.out _ HT1'.out).mono ?_
  rintro e w2 ⟨rfl, b2⟩
  have HT2 := Lib.hid (HT1'.out.keep b2)
  go_wp2_with fail
  refine (H3.out _ HT2.out).mono ?_
  rintro e w3 ⟨rfl, b3⟩
  go_wp2_with fail
  refine (H4.out _).mono ?_
  rintro e w' ⟨rfl, rfl⟩
  go_wp2_with fail
  go_ret
  have c1 := b1.trans (a1.mono b1.size)
  have c2 := c1.trans (b2.mono c1.size)
  exact ⟨rfl, c2.trans (b3.mono c2.size)⟩
theorem fits_q {G y : Int} (h : CallF G y) (w : World) : Calls Tryd.prog 20 #[.int .u8 G, .int .u64 y] w fun e w' => e = .returned (.bool true) ∧ w' = w :=
  (h w).mono fun _ _ ⟨h1, h2⟩ => ⟨h1, h2.symm⟩
theorem types_two (op a b T G v t : Int) (w : World) (hT : Tab w) (h1 : Sh2 14 op T G) (h2 : CallO op a 0 false) (h3 : CallW op a b v t true) (h4 : CallF G v) (h5 : t = 0 ∨ (t ≠ 0 ∧ v = 0)) :
    Calls Tryd.prog 6 #[.int .i64 op, .int .u64 a, .int .u64 b] w fun e w' => e = .returned (.bool true) ∧ Below w.heap.size w w' := by
  have HA := Lib.hid awake_any
  have H1 := Lib.hid h1
  have H2 := Lib.hid h2
  have H3 := Lib.hid h3
  have H4 := Lib.hid h4
  have HT := Lib.hid hT
  clear hT h1 h2 h3 h4
  have h6 : t = 0 ∨ ((t == 0) = false ∧ v = 0) := by
    rcases h5 with h | ⟨h, h'⟩
    · exact .inl h
    · exact .inr ⟨by simpa using h, h'⟩
  clear h5
  rcases h6 with rfl | ⟨h6, rfl⟩
  all_goals
    go_enter Tryd.func6, Tryd.ntmps6
    go_wp2_with fail
    refine (HA.out _ HT.out).mono ?_
    rintro e w1 ⟨rfl, b1⟩
    have HT1 := Lib.hid (HT.out.keep b1)
    go_wp2_with fail
    refine (H1.out _).mono ?_
    rintro e w' ⟨rfl, rfl⟩
    have a1 := below_box w1 (.cells #[.int .u8 T, .int .u8 T] 5)
    have HT1' := Lib.hid (HT1.out.keep a1)
    go_wp2_with fail
    refine (H2.out _ HT1'.out).mono ?_
    rintro e w2 ⟨rfl, b2⟩
    have HT2 := Lib.hid (HT1'.out.keep b2)
    go_wp2_with fail
    refine (H3.out _ HT2.out).mono ?_
    rintro e w3 ⟨rfl, b3⟩
    have hz : w1.heap.size < (w1.alloc (.cells #[.int .u8 T, .int .u8 T] 5)).heap.size := by simp
    have d0 : w3.cell? ⟨w1.heap.size, 0, none⟩ = some (.int .u8 T) := by
      rw [b3.cell (p := ⟨w1.heap.size, 0, none⟩) (Nat.lt_of_lt_of_le hz b2.size), b2.cell (p := ⟨w1.heap.size, 0, none⟩) hz]; simp [go_sem]
    have d1 : w3.cell? ⟨w1.heap.size, 1, none⟩ = some (.int .u8 T) := by
      rw [b3.cell (p := ⟨w1.heap.size, 1, none⟩) (Nat.lt_of_lt_of_le hz b2.size), b2.cell (p := ⟨w1.heap.size, 1, none⟩) hz]; simp [go_sem]
    have c1 := b1.trans (a1.mono b1.size)
    have c2 := c1.trans (b2.mono c1.size)
    have HB := Lib.hid (c2.trans (b3.mono c2.size))
    clear hz b1 a1 b2 b3 c1 c2
    go_wp2_with fail
    go_quiet ((go_at_call 20; exact Calls.quiet_of_same (fits_q H4.out _)))
    go_wp2_with fail
    go_ret
    exact ⟨rfl, HB.out.trans ((Still.of (W := w3) _).below.mono HB.out.size)⟩
theorem callF {G y : Int} (hG : isT G) (h : inR G y) : CallF G y := fun W => by
  have := fits_any G y W (inR_u h)
  rw [fit_in hG h] at this
  exact this
theorem types_any (op a b : Int) (wa : (Lit.int .u64 a).wf = true) (wb : (Lit.int .u64 b).wf = true) (w : World) (hT : Tab w) :
    Calls Tryd.prog 6 #[.int .i64 op, .int .u64 a, .int .u64 b] w fun e w' => e = .returned (.bool true) ∧ Below w.heap.size w w' := by
  have ha := u64_of wa
  have hb := u64_of wb
  have hO : CallO op a (onV op a) (onB op) := fun W h => one_any op a W h ha
  have hW : CallW op a b (twV op a b) (twT op a b) (twB op) := fun W h => two_any op a b W h ha hb
  by_cases h1 : famB op = true
  · have hf := (fam_ok h1).1
    by_cases h2 : tkB (famL op) = true
    · have eo : onB op = true := by simp [onB, h1, h2]
      have et : twB op = false := by simp [twB, h2]
      rw [et, show twV op a b = 0 from if_neg (by simp [et]), show twT op a b = 0 from if_neg (by simp [et])] at hW
      rw [eo, show onV op a = opV (famT op) (famL op) a 0 from if_pos eo] at hO
      exact types_one op a b _ _ _ w hT (shape_one op _ _ h1 h2 rfl rfl) hO hW (callF (gv_is hf) (opV_in hf ha ⟨by omega, by omega⟩))
    · have h2 : tkB (famL op) = false := by simpa using h2
      have eo : onB op = false := by simp [onB, h2]
      have et : twB op = true := by simp [twB, h1, h2]
      rw [eo, show onV op a = 0 from if_neg (by simp [eo])] at hO
      rw [et, show twV op a b = opV (famT op) (famL op) a b from if_pos et, show twT op a b = trT (famT op) (famL op) (loT (famT op) a) (loT (famT op) b) from if_pos et] at hW
      refine types_two op a b _ _ _ _ w hT (shape_two op _ _ h1 h2 rfl rfl) hO hW (callF (gv_is hf) (opV_in hf ha hb)) ?_
      by_cases h : trT (famT op) (famL op) (loT (famT op) a) (loT (famT op) b) = 0
      · exact .inl h
      · exact .inr ⟨h, if_neg h⟩
  · have h1 : famB op = false := by simpa using h1
    have eo : onB op = false := by simp [onB, h1]
    have et : twB op = false := by simp [twB, h1]
    rw [eo, show onV op a = 0 from if_neg (by simp [eo])] at hO
    rw [et, show twV op a b = 0 from if_neg (by simp [et]), show twT op a b = 0 from if_neg (by simp [et])] at hW
    exact types_none op a b w hT (shape_none op h1) hO hW
end Go.Proofs.YtoclfldmkipokaaDoor.Ints
