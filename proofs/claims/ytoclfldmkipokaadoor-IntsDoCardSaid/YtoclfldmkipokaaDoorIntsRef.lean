/- The document's own small functions of layer 2, walked: what they answer, as plain functions on numbers. -/
import Derived.Test.YtoclfldmkipokaaDoorChecked
import Derived.WalkKit
import Derived.OpenShut
import Derived.Lib.Hide
import Derived.WalkSpells
namespace Go.Proofs.YtoclfldmkipokaaDoor.Ints
open Go.RowKit

theorem ret_int {k : IntKind} {a b : Int} (h : a = b) : Ending.returned (.int k a) = .returned (.int k b) := by rw [h]
theorem ret_bool {a b : Bool} (h : a = b) : Ending.returned (.bool a) = .returned (.bool b) := by rw [h]

/-- Operators' places and widths. -/
theorem kind_a (op : Int) (w : World) (h1 : 69 ≤ op) (h2 : op ≤ 79) : Calls Tryd.prog 29 #[.int .i64 op] w fun e w' => e = .returned (.tuple #[.int .i64 (op - 69), .int .i64 32]) ∧ w = w' := by
  go_enter Tryd.func29, Tryd.ntmps29
  go_wp2
  go_ret2
  exact ⟨rfl, rfl⟩
theorem kind_b (op : Int) (w : World) (h1 : 80 ≤ op) (h2 : op ≤ 90) : Calls Tryd.prog 29 #[.int .i64 op] w fun e w' => e = .returned (.tuple #[.int .i64 (op - 80), .int .i64 64]) ∧ w = w' := by
  go_enter Tryd.func29, Tryd.ntmps29
  go_wp2
  go_ret2
  exact ⟨rfl, rfl⟩
theorem kind_c (op : Int) (w : World) (h1 : 103 ≤ op) (h2 : op ≤ 120) : Calls Tryd.prog 29 #[.int .i64 op] w fun e w' => e = .returned (.tuple #[.int .i64 (op - 92), .int .i64 32]) ∧ w = w' := by
  go_enter Tryd.func29, Tryd.ntmps29
  go_wp2
  go_ret2
  exact ⟨rfl, rfl⟩
theorem kind_d (op : Int) (w : World) (h1 : 121 ≤ op) (h2 : op ≤ 138) : Calls Tryd.prog 29 #[.int .i64 op] w fun e w' => e = .returned (.tuple #[.int .i64 (op - 110), .int .i64 64]) ∧ w = w' := by
  go_enter Tryd.func29, Tryd.ntmps29
  go_wp2
  go_ret2
  exact ⟨rfl, rfl⟩
/-- Codes that are no operators of a width. -/
def noKind (op : Int) : Prop := op < 69 ∨ (90 < op ∧ op < 103) ∨ 138 < op
theorem kind_none (op : Int) (w : World) (h : noKind op) : Calls Tryd.prog 29 #[.int .i64 op] w fun e w' => e = .returned (.tuple #[.int .i64 (-1), .int .i64 0]) ∧ w = w' := by
  rcases h with h | ⟨h, h'⟩ | h
  · go_enter Tryd.func29, Tryd.ntmps29
    go_wp2
    go_ret2
    exact ⟨rfl, rfl⟩
  · go_enter Tryd.func29, Tryd.ntmps29
    go_wp2
    go_ret2
    exact ⟨rfl, rfl⟩
  · go_enter Tryd.func29, Tryd.ntmps29
    go_wp2
    go_ret2
    exact ⟨rfl, rfl⟩

theorem low_32 (v : Int) (w : World) (h0 : 0 ≤ v) : Calls Tryd.prog 32 #[.int .u64 v, .int .i64 32] w fun e w' => e = .returned (.int .u64 (v % 4294967296)) ∧ w = w' := by
  go_enter Tryd.func32, Tryd.ntmps32
  go_wp2
  go_ret
  exact ⟨rfl, rfl⟩
theorem low_64 (v : Int) (w : World) : Calls Tryd.prog 32 #[.int .u64 v, .int .i64 64] w fun e w' => e = .returned (.int .u64 v) ∧ w = w' := by
  go_enter Tryd.func32, Tryd.ntmps32
  go_wp2
  go_ret
  exact ⟨rfl, rfl⟩

/-- A value's signed number. -/
def sg32 (v : Int) : Int := if 2147483648 ≤ v then v - 4294967296 else v
def sg64 (v : Int) : Int := if 9223372036854775808 ≤ v then v - 18446744073709551616 else v
theorem wrap64_sg {v : Int} (h0 : 0 ≤ v) (h1 : v ≤ 18446744073709551615) : wrap64 v = sg64 v := by unfold wrap64 sg64; split <;> omega
theorem signed_32 (v : Int) (w : World) (h0 : 0 ≤ v) (h1 : v ≤ 4294967295) : Calls Tryd.prog 33 #[.int .u64 v, .int .i64 32] w fun e w' => e = .returned (.int .i64 (sg32 v)) ∧ w = w' := by
  by_cases h : 2147483648 ≤ v
  · have H : Hid (sg32 v = v - 4294967296) := if_pos h
    go_enter Tryd.func33, Tryd.ntmps33
    go_wp2
    go_ret
    exact ⟨ret_int H.out.symm, rfl⟩
  · have H : Hid (sg32 v = v) := if_neg h
    go_enter Tryd.func33, Tryd.ntmps33
    go_wp2
    go_ret
    exact ⟨ret_int H.out.symm, rfl⟩
theorem signed_64 (v : Int) (w : World) (h0 : 0 ≤ v) (h1 : v ≤ 18446744073709551615) : Calls Tryd.prog 33 #[.int .u64 v, .int .i64 64] w fun e w' => e = .returned (.int .i64 (sg64 v)) ∧ w = w' := by
  have H := Lib.hid (wrap64_sg h0 h1)
  clear h0 h1
  go_enter Tryd.func33, Tryd.ntmps33
  go_wp2
  go_ret
  exact ⟨ret_int H.out, rfl⟩

theorem yes_t (w : World) : Calls Tryd.prog 34 #[.bool true] w fun e w' => e = .returned (.int .u64 1) ∧ w = w' := by
  go_enter Tryd.func34, Tryd.ntmps34
  go_wp2
  go_ret
  exact ⟨rfl, rfl⟩
theorem yes_f (w : World) : Calls Tryd.prog 34 #[.bool false] w fun e w' => e = .returned (.int .u64 0) ∧ w = w' := by
  go_enter Tryd.func34, Tryd.ntmps34
  go_wp2
  go_ret
  exact ⟨rfl, rfl⟩
theorem yes_any (b : Bool) (w : World) : Calls Tryd.prog 34 #[.bool b] w fun e w' => e = .returned (.int .u64 (if b then 1 else 0)) ∧ w = w' := by
  cases b
  · exact yes_f w
  · exact yes_t w

/-- A digit. -/
def dig (v : Nat) (i : Nat) : Nat := v / 2 ^ i % 2
theorem dig_le (v i : Nat) : dig v i ≤ 1 := by unfold dig; omega
theorem bit_any (v : Nat) (i : Int) (j : Nat) (w : World) (_hv : v < 18446744073709551616) (hi : i = (j : Int)) (hj : j < 64) : Calls Tryd.prog 43 #[.int .u64 (v : Int), .int .i64 i] w fun e w' => e = .returned (.int .i64 (dig v j : Int)) ∧ w = w' := by
  subst hi
  have H : Hid (wrap64 (((v : Int) / 2 ^ j).tmod 2) = (dig v j : Int)) := by
    show _ = _
    have h0 : (0 : Int) ≤ (v : Int) / 2 ^ j := Int.ediv_nonneg (by omega) (Int.pow_nonneg (by omega))
    have e : (v : Int) / 2 ^ j = ((v / 2 ^ j : Nat) : Int) := by simp
    rw [Int.tmod_eq_emod_of_nonneg h0, e]
    unfold dig wrap64
    omega
  go_enter Tryd.func43, Tryd.ntmps43
  go_wp2
  go_ret
  exact ⟨ret_int H.out, rfl⟩
/-- Zeros at the top of so many digits, zeros at the bottom, ones. -/
def clzR (v : Nat) : Nat → Nat
  | 0 => 0
  | n + 1 => if dig v n = 0 then clzR v n + 1 else 0
def ctzR (v : Nat) : Nat → Nat → Nat
  | _, 0 => 0
  | i, n + 1 => if dig v i = 0 then ctzR v (i + 1) n + 1 else 0
def popR (v : Nat) : Nat → Nat
  | 0 => 0
  | n + 1 => popR v n + dig v n
theorem clzR_le (v n : Nat) : clzR v n ≤ n := by
  induction n with
  | zero => exact Nat.le_refl _
  | succ n ih => unfold clzR; split <;> omega
theorem ctzR_le (v : Nat) : ∀ (n i : Nat), ctzR v i n ≤ n
  | 0, _ => Nat.le_refl _
  | n + 1, i => by have := ctzR_le v n (i + 1); unfold ctzR; split <;> omega
theorem popR_le (v n : Nat) : popR v n ≤ n := by
  induction n with
  | zero => exact Nat.le_refl _
  | succ n ih => have := dig_le v n; unfold popR; omega

set_option maxHeartbeats 1000000 in
set_option maxRecDepth 100000 in
theorem counted_clz (v n : Nat) (w : World) (hv : v < 18446744073709551616) (hn : n ≤ 64) :
    Calls Tryd.prog 35 #[.int .i64 0, .int .u64 (v : Int), .int .i64 (n : Int)] w fun e w' => e = .returned (.int .u64 (clzR v n : Int)) ∧ w = w' := by
  have HV := Lib.hid hv
  clear hv
  have hle := clzR_le v n
  go_enter Tryd.func35, Tryd.ntmps35
  go_wp2
  go_loop [7, 8] (fun m i => ∃ t : Nat, t ≤ n ∧ i = .int .i64 (t : Int) ∧ m = .int .u64 (t : Int) ∧ clzR v (n - t) + t = clzR v n) (fun _ i => n - (intOf i).toNat)
  case atStart => exact ⟨0, Nat.zero_le _, rfl, rfl, rfl⟩
  case round =>
    obtain ⟨t, ht, rfl, rfl, heq⟩ := hrel
    have HE := Lib.hid heq
    clear heq
    by_cases hlt : t < n
    · obtain ⟨k, hk⟩ : ∃ k, n = k + 1 + t := ⟨n - 1 - t, by omega⟩
      have HB := Lib.hid (fun W (i : Int) (hi : i = (k : Int)) => bit_any v i k W HV.out hi (by omega))
      have hk1 : k ≤ 63 := by omega
      by_cases hd : dig v k = 0
      · have HN : Hid (clzR v (n - (t + 1)) + (t + 1) = clzR v n) := by
          show _ = _
          rw [← HE.out, show n - t = k + 1 from by omega, show n - (t + 1) = k from by omega]
          conv => rhs; rw [clzR, if_pos hd]
          omega
        have hd0 : ((dig v k : Int) == 0) = true := by rw [hd]; rfl
        have HK := Lib.hid hk
        clear hd hk
        go_wp2_with (go_at_call 43; refine (HB.out _ _ (by have := HK.out; omega)).mono ?_; rintro e w' ⟨rfl, rfl⟩)
        go_round
        case rel => exact ⟨t + 1, by omega, by go_num, by go_num, HN.out⟩
        case measure => simp [intOf]; omega
      · have HN : Hid (t = clzR v n) := by
          show _ = _
          rw [← HE.out, show n - t = k + 1 from by omega, clzR, if_neg hd]
          omega
        have hd0 : ((dig v k : Int) == 0) = false := by simp; omega
        have HK := Lib.hid hk
        clear hd hk
        go_wp2_with (go_at_call 43; refine (HB.out _ _ (by have := HK.out; omega)).mono ?_; rintro e w' ⟨rfl, rfl⟩)
        go_ret
        exact ⟨ret_int (by rw [← HN.out]), rfl⟩
    · obtain rfl : n = t := by omega
      go_wp2
      go_ret
      exact ⟨ret_int (by have := HE.out; rw [Nat.sub_self] at this; simp [clzR] at this; omega), rfl⟩
end Go.Proofs.YtoclfldmkipokaaDoor.Ints
