/- The small functions that reading a number asks: whether the last byte fits, and how the sign goes on upwards; and the closure that takes the bytes. -/
import Derived.Test.YtnminpbnlcgblaaLebLay
import Derived.BigQuiet
namespace Go.Proofs.Ytnminpbnlcgblaa.Leb
open Go.RowKit

def fitU (c : Int) (d : Nat) : Bool := decide (c < 2 ^ d)
def fitS (c : Int) (d : Nat) : Bool := decide (c < 2 ^ (d - 1)) || decide (128 - 2 ^ (d - 1) ≤ c)

theorem seven {Q : Nat → Prop} (h1 : Q 1) (h2 : Q 2) (h3 : Q 3) (h4 : Q 4) (h5 : Q 5) (h6 : Q 6) (h7 : Q 7) (d : Nat) (hd : 1 ≤ d) (hd7 : d ≤ 7) : Q d := by
  match d, hd, hd7 with
  | 1, _, _ => exact h1
  | 2, _, _ => exact h2
  | 3, _, _ => exact h3
  | 4, _, _ => exact h4
  | 5, _, _ => exact h5
  | 6, _, _ => exact h6
  | 7, _, _ => exact h7
theorem fitU_eq (c : Int) (d : Nat) (h0 : 0 ≤ c) (hd : 1 ≤ d) (hd7 : d ≤ 7) : (c / 2 ^ d == 0) = fitU c d := by
  refine seven (Q := fun d => (c / 2 ^ d == 0) = fitU c d) ?_ ?_ ?_ ?_ ?_ ?_ ?_ d hd hd7 <;>
  · rw [Bool.eq_iff_iff]
    simp only [fitU, beq_iff_eq, decide_eq_true_eq]
    omega
theorem fitS_eq (c : Int) (d : Nat) (h0 : 0 ≤ c) (h1 : c ≤ 127) (hd : 1 ≤ d) (hd7 : d ≤ 7) : ((c / 2 ^ (d - 1) == 0) || (c / 2 ^ (d - 1) == 127 / 2 ^ (d - 1))) = fitS c d := by
  refine seven (Q := fun d => ((c / 2 ^ (d - 1) == 0) || (c / 2 ^ (d - 1) == 127 / 2 ^ (d - 1))) = fitS c d) ?_ ?_ ?_ ?_ ?_ ?_ ?_ d hd hd7 <;>
  · rw [Bool.eq_iff_iff]
    simp only [fitS, Bool.or_eq_true, beq_iff_eq, decide_eq_true_eq]
    omega

set_option maxHeartbeats 400000 in
set_option maxRecDepth 100000 in
theorem fitU_any (c : Int) (d : Nat) (w : World) (h0 : 0 ≤ c) (_h1 : c ≤ 127) (hd : 1 ≤ d) (hd7 : d ≤ 7) :
    Calls Try.prog 44 #[.int .u8 c, .int .i64 (d : Int)] w fun e w' => e = .returned (.bool (fitU c d)) ∧ w = w' := by
  go_enter Try.func44, Try.ntmps44
  go_wp2
  go_ret
  exact ⟨ret_bool (fitU_eq c d h0 hd hd7), rfl⟩

/-- A number's lowest m digits, the highest one going on upwards. -/
def ext (v m : Nat) : Int := if 64 ≤ m then wrap64 v else wrap64 (IntKind.u64.wrap ((v : Int) * 2 ^ (64 - m))) / 2 ^ (64 - m)

theorem next_no (ba bb : Nat) (k n c : Nat) (A : Option Addr) (w : World) (hat : w.cell? ⟨ba, 0, none⟩ = some (.int .i64 (k : Int))) (hb : w.cell? ⟨bb, 0, none⟩ = some (.slice A n c)) (hk : n ≤ k) :
    Calls Try.prog 50 #[.pointer (some ⟨ba, 0, none⟩), .pointer (some ⟨bb, 0, none⟩)] w fun e w' => e = .returned (.tuple #[.int .u8 0, .int .i64 0, .bool false]) ∧ w = w' := by
  go_enter Try.func50, Try.ntmps50
  go_wp2
  go_ret3
  exact ⟨rfl, rfl⟩

theorem next_yes (ba bb b off : Nat) (k n c : Nat) (x : Int) (w : World) (hat : w.cell? ⟨ba, 0, none⟩ = some (.int .i64 (k : Int))) (hfz : w.frozen? ⟨ba, 0, none⟩ = false) (hb : w.cell? ⟨bb, 0, none⟩ = some (.slice (some ⟨b, off, none⟩) n c)) (hk : k < n) (hn : n ≤ 1000000000)
    (hc : w.cell? ⟨b, off + k, none⟩ = some (.int .u8 x)) :
    Calls Try.prog 50 #[.pointer (some ⟨ba, 0, none⟩), .pointer (some ⟨bb, 0, none⟩)] w fun e w' => e = .returned (.tuple #[.int .u8 x, .int .i64 ((k : Int) + 1), .bool true]) ∧ ∃ m, w' = (w.setCell ⟨ba, 0, none⟩ (.int .i64 ((k : Int) + 1))).drewN m := by
  go_enter Try.func50, Try.ntmps50
  go_wp2
  go_quiet (fail)
  go_wp2
  go_ret3
  exact ⟨rfl, _, rfl⟩
end Go.Proofs.Ytnminpbnlcgblaa.Leb
