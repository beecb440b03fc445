/- What the two functions that tell a number's length in bytes answer, for every number, and that they leave the world alone. -/
import Derived.Test.YtnminpbnlcgblaaChecked
import Derived.Test.YtnminpbnlcgblaaLebMath
import Derived.WalkKit
import Derived.OpenShut
import Derived.Lib.Hide
namespace Go.Proofs.Ytnminpbnlcgblaa.Leb
open Go.RowKit

theorem ret_int {k : IntKind} {a b : Int} (h : a = b) : Ending.returned (.int k a) = .returned (.int k b) := by rw [h]

theorem ret_bool {a b : Bool} (h : a = b) : Ending.returned (.bool a) = .returned (.bool b) := by rw [h]

set_option maxHeartbeats 400000 in
set_option maxRecDepth 100000 in
theorem LenU_any (v : Nat) (w : World) (hv : v < 18446744073709551616) :
    Calls Try.prog 48 #[.int .u64 (v : Int)] w fun e w' => e = .returned (.int .i64 (lenU v : Int)) ∧ w = w' := by
  have hten := lenU_ten hv
  have hpos := lenU_pos v
  clear hv
  go_enter Try.func48, Try.ntmps48
  go_wp2
  go_loop [0, 3] (fun x n => ∃ u k : Nat, x = .int .u64 (u : Int) ∧ n = .int .i64 (k : Int) ∧ 1 ≤ k ∧ u ≤ v ∧ lenU u + k = lenU v + 1) (fun x _ => (intOf x).toNat)
  case atStart => exact ⟨v, 1, rfl, rfl, by omega, by omega, by omega⟩
  case round =>
    obtain ⟨u, k, rfl, rfl, hk, hu, hlen⟩ := hrel
    have H := Lib.hid hlen
    have hup := lenU_pos u
    have hk2 : k ≤ 10 := by omega
    clear hlen
    by_cases hlt : u < 128
    · go_wp2
      go_ret
      exact ⟨ret_int (by have := H.out; rw [lenU_small hlt] at this; omega), rfl⟩
    · go_wp2
      go_round
      case rel => exact ⟨u / 128, k + 1, by go_num, by go_num, by omega, by omega, by have := H.out; rw [lenU_great (by omega)] at this; omega⟩
      case measure => simp [intOf]; omega

/-- Whether seven digits, the highest one the sign's, hold a number. -/
def last (v : Int) : Bool := decide (-64 ≤ v ∧ v ≤ 63)
theorem last_yes {v : Int} (h : -64 ≤ v ∧ v ≤ 63) : last v = true := by simpa [last] using h
theorem last_no {v : Int} (h : ¬ (-64 ≤ v ∧ v ≤ 63)) : last v = false := by simpa [last] using h

end Go.Proofs.Ytnminpbnlcgblaa.Leb
