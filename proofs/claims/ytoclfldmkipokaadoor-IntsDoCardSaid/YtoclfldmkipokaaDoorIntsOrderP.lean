/- IntsOrder walked: of two numbers just one is below, or they are one; by their signs, and without. -/
import Derived.Test.YtoclfldmkipokaaDoorIntsPure
import Derived.LoopN
namespace Go.Proofs.YtoclfldmkipokaaDoor.Ints
open Go.RowKit
set_option maxRecDepth 100000
set_option maxHeartbeats 400000

theorem sg_inj {t x y : Int} (ht : isT t) (hx : inR t x) (hy : inR t y) (h : sgT t x = sgT t y) : x = y := by
  rw [← sg_md ht hx, ← sg_md ht hy, h]
def b2i (B : Bool) : Int := if B = true then 1 else 0
theorem va_c {t l x y : Int} (h2 : l ≤ 79) : vaL t l x y = b2i (cV t l x y) := by
  unfold vaL ruV
  rw [if_pos h2, show gvT t l = 127 from if_pos (.inl h2)]
  cases cV t l x y <;> rfl
theorem tw_c {op t l : Int} (a b : Int) (B : Bool) (hB : twB op = true) (hf : famT op = t) (hl : famL op = l) (h2 : l ≤ 79) (ha : u64R a) (hb : u64R b) (hv : cV t l (loT t a) (loT t b) = B) (W : World) (hT : Tab W) :
    Calls Tryd.prog 18 #[.int .i64 op, .int .u64 a, .int .u64 b] W fun e w' => e = .returned (.tuple #[.int .u64 (b2i B), .int .i64 0, .bool true]) ∧ Below W.heap.size W w' := by
  have h := tw_nt a b hB hf hl (.inl (by omega))
  refine two_at (h.1.trans ?_) h.2 hB ha hb W hT
  rw [← hv]
  exact va_c h2
theorem on_c {op t : Int} (a : Int) (hB : onB op = true) (hf : famT op = t) (hl : famL op = 69) (ha : u64R a) (W : World) (hT : Tab W) :
    Calls Tryd.prog 16 #[.int .i64 op, .int .u64 a] W fun e w' => e = .returned (.tuple #[.int .u64 (b2i (loT t a == 0)), .bool true]) ∧ Below W.heap.size W w' := by
  refine one_at ((on_nt a hB hf hl (.inl (by omega))).trans ?_) hB ha W hT
  rw [show loT (gvT t 69) (ruV t 69 (loT t a) (loT t 0)) = vaL t 69 (loT t a) (loT t 0) from rfl, va_c (by omega)]
  congr 1
/-- The five ways: one number; below and above, with and without the signs. -/
def ways (e n ls gs les ges lu gu leu geu : Bool) : Prop :=
  (e, n, ls, gs, les, ges, lu, gu, leu, geu) = (true, false, false, false, true, true, false, false, true, true) ∨
  (e, n, ls, gs, les, ges, lu, gu, leu, geu) = (false, true, true, false, true, false, true, false, true, false) ∨
  (e, n, ls, gs, les, ges, lu, gu, leu, geu) = (false, true, true, false, true, false, false, true, false, true) ∨
  (e, n, ls, gs, les, ges, lu, gu, leu, geu) = (false, true, false, true, false, true, true, false, true, false) ∨
  (e, n, ls, gs, les, ges, lu, gu, leu, geu) = (false, true, false, true, false, true, false, true, false, true)
theorem five {t x y : Int} (ht : isT t) (hx : inR t x) (hy : inR t y) : ways (cV t 70 x y) (cV t 71 x y) (cV t 72 x y) (cV t 74 x y) (cV t 76 x y) (cV t 78 x y) (cV t 73 x y) (cV t 75 x y) (cV t 77 x y) (cV t 79 x y) := by
  show ways (x == y) (x != y) (decide (sgT t x < sgT t y)) (decide (sgT t y < sgT t x)) (decide (sgT t x ≤ sgT t y)) (decide (sgT t y ≤ sgT t x)) (decide (x < y)) (decide (y < x)) (decide (x ≤ y)) (decide (y ≤ x))
  unfold ways
  by_cases h : x = y
  · subst h; left; simp
  · have hs : sgT t x ≠ sgT t y := fun e => h (sg_inj ht hx hy e)
    have e1 : (x == y) = false := by simpa using h
    have e2 : (x != y) = true := by simpa using h
    rw [e1, e2]
    generalize sgT t x = p at hs ⊢
    generalize sgT t y = q at hs ⊢
    right
    by_cases h1 : p < q <;> by_cases h2 : x < y
    · left
      rw [decide_eq_true h1, decide_eq_false (show ¬ q < p by omega), decide_eq_true (show p ≤ q by omega), decide_eq_false (show ¬ q ≤ p by omega), decide_eq_true h2, decide_eq_false (show ¬ y < x by omega), decide_eq_true (show x ≤ y by omega), decide_eq_false (show ¬ y ≤ x by omega)]
    · right; left
      rw [decide_eq_true h1, decide_eq_false (show ¬ q < p by omega), decide_eq_true (show p ≤ q by omega), decide_eq_false (show ¬ q ≤ p by omega), decide_eq_false h2, decide_eq_true (show y < x by omega), decide_eq_false (show ¬ x ≤ y by omega), decide_eq_true (show y ≤ x by omega)]
    · right; right; left
      rw [decide_eq_false h1, decide_eq_true (show q < p by omega), decide_eq_false (show ¬ p ≤ q by omega), decide_eq_true (show q ≤ p by omega), decide_eq_true h2, decide_eq_false (show ¬ y < x by omega), decide_eq_true (show x ≤ y by omega), decide_eq_false (show ¬ y ≤ x by omega)]
    · right; right; right
      rw [decide_eq_false h1, decide_eq_true (show q < p by omega), decide_eq_false (show ¬ p ≤ q by omega), decide_eq_true (show q ≤ p by omega), decide_eq_false h2, decide_eq_true (show y < x by omega), decide_eq_false (show ¬ x ≤ y by omega), decide_eq_true (show y ≤ x by omega)]
/-- A call of a comparison. -/
def CallT (op a b v : Int) : Prop := ∀ W, Tab W → Calls Tryd.prog 18 #[.int .i64 op, .int .u64 a, .int .u64 b] W fun e w' => e = .returned (.tuple #[.int .u64 v, .int .i64 0, .bool true]) ∧ Below W.heap.size W w'
end Go.Proofs.YtoclfldmkipokaaDoor.Ints
