/- One and Two, walked: what any operator gives of any numbers. -/
import Derived.Test.YtoclfldmkipokaaDoorIntsMk
namespace Go.Proofs.YtoclfldmkipokaaDoor.Ints
open Go.RowKit
set_option maxRecDepth 100000
set_option maxHeartbeats 400000

theorem fam_ok {op : Int} (h : famB op = true) : isT (famT op) ∧ isL (famL op) := by
  have h := of_decide_eq_true h
  unfold isL isR isT famT famL
  constructor <;> (repeat' split) <;> omega
theorem cell_lt {w : World} {p : Addr} {v : Value} (h : w.cell? p = some v) : p.block < w.heap.size := by
  rcases Nat.lt_or_ge p.block w.heap.size with h1 | h1
  · exact h1
  · have : w.heap[p.block]? = none := Array.getElem?_eq_none h1
    simp [World.cell?, this] at h
theorem Tab.keep {w w' : World} (h : Tab w) (hb : Below w.heap.size w w') : Tab w' := fun j hj => by
  have hc := h j hj
  rw [hb.cell (cell_lt hc)]
  exact hc
theorem Still.below {w w' : World} (h : Still w w') : Below w.heap.size w w' := by
  obtain ⟨n, rfl⟩ := h
  exact ⟨_root_.rfl, _root_.rfl, _root_.rfl, Nat.le_refl _, fun _ _ => _root_.rfl⟩

/-- Of two numbers. -/
def twB (op : Int) : Bool := famB op && !tkB (famL op)
def twV (op a b : Int) : Int := if twB op = true then opV (famT op) (famL op) a b else 0
def twT (op a b : Int) : Int := if twB op = true then trT (famT op) (famL op) (loT (famT op) a) (loT (famT op) b) else 0
/-- Of one. -/
def onB (op : Int) : Bool := famB op && tkB (famL op)
def onV (op a : Int) : Int := if onB op = true then opV (famT op) (famL op) a 0 else 0

theorem two_any (op a b : Int) (w : World) (hT : Tab w) (ha : u64R a) (hb : u64R b) : Calls Tryd.prog 18 #[.int .i64 op, .int .u64 a, .int .u64 b] w fun e w' => e = .returned (.tuple #[.int .u64 (twV op a b), .int .i64 (twT op a b), .bool (twB op)]) ∧ Below w.heap.size w w' := by
  have HT := Lib.hid hT
  have HA := Lib.hid ha
  have HB := Lib.hid hb
  clear hT ha hb
  by_cases h1 : famB op = true
  · by_cases h2 : tkB (famL op) = true
    · have H : Hid (twB op = false ∧ twV op a b = 0 ∧ twT op a b = 0) := by
        have e : twB op = false := by simp [twB, h2]
        exact ⟨e, if_neg (by simp [e]), if_neg (by simp [e])⟩
      go_enter Tryd.func18, Tryd.ntmps18
      go_wp2_with (first | (go_at_call 26; refine (family_any _ _).mono ?_; rintro e w' ⟨rfl, rfl⟩) | (go_at_call 27; refine (takes_any _ _).mono ?_; rintro e w' ⟨rfl, rfl⟩))
      go_ret3
      exact ⟨ret_tup3 H.out.2.1.symm H.out.2.2.symm H.out.1.symm, Below.refl _ _⟩
    · have h2 : tkB (famL op) = false := by simpa using h2
      have H : Hid (twB op = true ∧ twV op a b = opV (famT op) (famL op) a b ∧ twT op a b = trT (famT op) (famL op) (loT (famT op) a) (loT (famT op) b)) := by
        have e : twB op = true := by simp [twB, h1, h2]
        exact ⟨e, if_pos e, if_pos e⟩
      have HO := Lib.hid (fam_ok h1)
      go_enter Tryd.func18, Tryd.ntmps18
      go_wp2_with (first | (go_at_call 26; refine (family_any _ _).mono ?_; rintro e w' ⟨rfl, rfl⟩) | (go_at_call 27; refine (takes_any _ _).mono ?_; rintro e w' ⟨rfl, rfl⟩))
      refine (operator_any _ _ _ HO.out.1 HO.out.2).mono ?_
      rintro e w1 ⟨F, rfl, ⟨k, caps, cs, rfl, hk, hC, hR⟩, hb1⟩
      have hrun := run_k hk
      have HR := Lib.hid (hR w1 a b hC (HT.out.keep hb1) HA.out HB.out)
      clear hR hk hC
      go_wp2_with fail
      refine HR.out.mono ?_
      rintro e w2 ⟨rfl, hs⟩
      go_wp2_with fail
      go_ret3
      exact ⟨ret_tup3 H.out.2.1.symm H.out.2.2.symm H.out.1.symm, hb1.trans (hs.below.mono hb1.size)⟩
  · have h1 : famB op = false := by simpa using h1
    have H : Hid (twB op = false ∧ twV op a b = 0 ∧ twT op a b = 0) := by
      have e : twB op = false := by simp [twB, h1]
      exact ⟨e, if_neg (by simp [e]), if_neg (by simp [e])⟩
    go_enter Tryd.func18, Tryd.ntmps18
    go_wp2_with (first | (go_at_call 26; refine (family_any _ _).mono ?_; rintro e w' ⟨rfl, rfl⟩))
    go_ret3
    exact ⟨ret_tup3 H.out.2.1.symm H.out.2.2.symm H.out.1.symm, Below.refl _ _⟩
theorem ret_ib {a b : Int} {x y : Bool} (h : a = b) (h2 : x = y) : Ending.returned (.tuple #[.int .u64 a, .bool x]) = .returned (.tuple #[.int .u64 b, .bool y]) := by rw [h, h2]
theorem one_any (op a : Int) (w : World) (hT : Tab w) (ha : u64R a) : Calls Tryd.prog 16 #[.int .i64 op, .int .u64 a] w fun e w' => e = .returned (.tuple #[.int .u64 (onV op a), .bool (onB op)]) ∧ Below w.heap.size w w' := by
  have HT := Lib.hid hT
  have HA := Lib.hid ha
  clear hT ha
  by_cases h1 : famB op = true
  · by_cases h2 : tkB (famL op) = true
    · have H : Hid (onB op = true ∧ onV op a = opV (famT op) (famL op) a 0) := by
        have e : onB op = true := by simp [onB, h1, h2]
        exact ⟨e, if_pos e⟩
      have HO := Lib.hid (fam_ok h1)
      go_enter Tryd.func16, Tryd.ntmps16
      go_wp2_with (first | (go_at_call 26; refine (family_any _ _).mono ?_; rintro e w' ⟨rfl, rfl⟩) | (go_at_call 27; refine (takes_any _ _).mono ?_; rintro e w' ⟨rfl, rfl⟩))
      refine (operator_any _ _ _ HO.out.1 HO.out.2).mono ?_
      rintro e w1 ⟨F, rfl, ⟨k, caps, cs, rfl, hk, hC, hR⟩, hb1⟩
      have hrun := run_k hk
      have HR := Lib.hid (hR w1 a 0 hC (HT.out.keep hb1) HA.out ⟨by omega, by omega⟩)
      clear hR hk hC
      go_wp2_with fail
      refine HR.out.mono ?_
      rintro e w2 ⟨rfl, hs⟩
      go_wp2_with fail
      go_ret2
      exact ⟨ret_ib H.out.2.symm H.out.1.symm, hb1.trans (hs.below.mono hb1.size)⟩
    · have h2 : tkB (famL op) = false := by simpa using h2
      have H : Hid (onB op = false ∧ onV op a = 0) := by
        have e : onB op = false := by simp [onB, h2]
        exact ⟨e, if_neg (by simp [e])⟩
      go_enter Tryd.func16, Tryd.ntmps16
      go_wp2_with (first | (go_at_call 26; refine (family_any _ _).mono ?_; rintro e w' ⟨rfl, rfl⟩) | (go_at_call 27; refine (takes_any _ _).mono ?_; rintro e w' ⟨rfl, rfl⟩))
      go_ret2
      exact ⟨ret_ib H.out.2.symm H.out.1.symm, Below.refl _ _⟩
  · have h1 : famB op = false := by simpa using h1
    have H : Hid (onB op = false ∧ onV op a = 0) := by
      have e : onB op = false := by simp [onB, h1]
      exact ⟨e, if_neg (by simp [e])⟩
    go_enter Tryd.func16, Tryd.ntmps16
    go_wp2_with (first | (go_at_call 26; refine (family_any _ _).mono ?_; rintro e w' ⟨rfl, rfl⟩))
    go_ret2
    exact ⟨ret_ib H.out.2.symm H.out.1.symm, Below.refl _ _⟩
end Go.Proofs.YtoclfldmkipokaaDoor.Ints
