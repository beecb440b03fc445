/- The document's turning and shifting of layer 2, walked: digit by digit. -/
import Derived.Test.YtoclfldmkipokaaDoorIntsRefB
namespace Go.Proofs.YtoclfldmkipokaaDoor.Ints
open Go.RowKit

/-- A number of given digits. -/
def tnR (f : Nat → Nat) : Nat → Nat
  | 0 => 0
  | n + 1 => tnR f n + f n * 2 ^ n
theorem tnR_lt (f : Nat → Nat) (hf : ∀ i, f i ≤ 1) (n : Nat) : tnR f n < 2 ^ n := by
  induction n with
  | zero => simp [tnR]
  | succ n ih =>
    have h : f n * 2 ^ n ≤ 1 * 2 ^ n := Nat.mul_le_mul_right _ (hf n)
    unfold tnR
    rw [Nat.pow_succ]
    omega
theorem tn_step (f : Nat → Nat) (hf : ∀ i, f i ≤ 1) (t : Nat) (ht : t < 64) (d : Nat) (hd : f t = d) : IntKind.u64.wrap ((tnR f t : Int) + IntKind.u64.wrap ((d : Int) * 2 ^ t)) = (tnR f (t + 1) : Int) := by
  have h1 := tnR_lt f hf (t + 1)
  have h2 : (2 : Nat) ^ (t + 1) ≤ 2 ^ 64 := Nat.pow_le_pow_right (by omega) (by omega)
  have e : tnR f (t + 1) = tnR f t + d * 2 ^ t := by rw [tnR, hd]
  have e2 : ((d : Int) * 2 ^ t) = ((d * 2 ^ t : Nat) : Int) := by simp
  rw [IntKind.wrap_u64, IntKind.wrap_u64, e2, e]
  rw [e] at h1
  generalize d * 2 ^ t = p at h1 ⊢
  omega
theorem tn_zero (f : Nat → Nat) (hf : ∀ i, f i ≤ 1) (t : Nat) (ht : t < 64) (hd : f t = 0) : IntKind.u64.wrap (tnR f t : Int) = (tnR f (t + 1) : Int) := by
  have h1 := tnR_lt f hf t
  have h2 : (2 : Nat) ^ t ≤ 2 ^ 63 := Nat.pow_le_pow_right (by omega) (by omega)
  have e : tnR f (t + 1) = tnR f t := by rw [tnR, hd]; omega
  rw [IntKind.wrap_u64, e]
  omega
theorem mod_l (t n wd : Nat) (h1 : t < n) (h2 : n < wd) : ((t : Int) - (n : Int)) % (wd : Int) = ((t + wd - n : Nat) : Int) := by
  rw [← Int.add_emod_right, Int.emod_eq_of_lt (by omega) (by omega)]
  omega
theorem mod_r (t n wd : Nat) (h1 : t < wd) (h2 : n < wd) (h3 : wd ≤ t + n) : ((t : Int) + (n : Int)) % (wd : Int) = ((t + n - wd : Nat) : Int) := by
  rw [← Int.sub_emod_right, Int.emod_eq_of_lt (by omega) (by omega)]
  omega
def fShl (a n : Nat) (i : Nat) : Nat := if n ≤ i then dig a (i - n) else 0
def fShrS (a n w : Nat) (i : Nat) : Nat := if i + n < w then dig a (i + n) else dig a (w - 1)
def fShrU (a n w : Nat) (i : Nat) : Nat := if i + n < w then dig a (i + n) else 0
def fRotl (a n w : Nat) (i : Nat) : Nat := if n ≤ i then dig a (i - n) else dig a (i + w - n)
def fRotr (a n w : Nat) (i : Nat) : Nat := if i + n < w then dig a (i + n) else dig a (i + n - w)

set_option maxHeartbeats 2000000 in
set_option maxRecDepth 100000 in
theorem turned_shl (a n wd : Nat) (w : World) (hv : a < 18446744073709551616) (hn : n < wd) (hw : wd ≤ 64) :
    Calls Tryd.prog 38 #[.int .i64 0, .int .u64 (a : Int), .int .i64 (n : Int), .int .i64 (wd : Int)] w fun e w' => e = .returned (.int .u64 (tnR (fShl a n) wd : Int)) ∧ w = w' := by
  have HV := Lib.hid hv
  clear hv
  have hf : ∀ i, (fShl a n) i ≤ 1 := fun i => by unfold fShl; split <;> first | exact dig_le _ _ | omega
  have HF := Lib.hid hf
  clear hf
  go_enter Tryd.func38, Tryd.ntmps38
  go_wp2
  go_loop [9, 10] (fun m i => ∃ t : Nat, t ≤ wd ∧ i = .int .i64 (t : Int) ∧ m = .int .u64 (tnR (fShl a n) t : Int)) (fun _ i => wd - (intOf i).toNat)
  case atStart => exact ⟨0, Nat.zero_le _, rfl, rfl⟩
  case round =>
    obtain ⟨t, ht, rfl, rfl⟩ := hrel
    by_cases hlt : t < wd
    · have hf := HF.out
      by_cases hc : n ≤ t
      · have HD : Hid ((fShl a n) t = dig a (t - n)) := by show _ = _; unfold fShl; rw [if_pos hc]
        have HS := Lib.hid (tn_step ((fShl a n)) hf t (by omega) _ HD.out)
        have HB := Lib.hid (fun W (x : Int) (hx : x = ((t - n : Nat) : Int)) => bit_any a x (t - n) W HV.out hx (by omega))
        have hdl := dig_le a (t - n)
        clear HD hf
        go_wp2_with (go_at_call 43; refine (HB.out _ _ (by omega)).mono ?_; rintro e w' ⟨rfl, rfl⟩)
        go_round
        case rel => exact ⟨t + 1, by omega, by go_num, by rw [← HS.out]⟩
        case measure => simp [intOf]; omega
      · have HD : Hid ((fShl a n) t = 0) := by show _ = _; unfold fShl; rw [if_neg hc]
        have HS := Lib.hid (tn_zero ((fShl a n)) hf t (by omega) HD.out)
        clear HD hf
        go_wp2
        go_round
        case rel => exact ⟨t + 1, by omega, by go_num, by rw [← HS.out]⟩
        case measure => simp [intOf]; omega
    · obtain rfl : wd = t := by omega
      go_wp2
      go_ret
      exact ⟨rfl, rfl⟩

set_option maxHeartbeats 2000000 in
set_option maxRecDepth 100000 in
theorem turned_shrs (a n wd : Nat) (w : World) (hv : a < 18446744073709551616) (hn : n < wd) (hw : wd ≤ 64) :
    Calls Tryd.prog 38 #[.int .i64 1, .int .u64 (a : Int), .int .i64 (n : Int), .int .i64 (wd : Int)] w fun e w' => e = .returned (.int .u64 (tnR (fShrS a n wd) wd : Int)) ∧ w = w' := by
  have HV := Lib.hid hv
  clear hv
  have hf : ∀ i, (fShrS a n wd) i ≤ 1 := fun i => by unfold fShrS; split <;> first | exact dig_le _ _ | omega
  have HF := Lib.hid hf
  clear hf
  go_enter Tryd.func38, Tryd.ntmps38
  go_wp2
  go_loop [9, 10] (fun m i => ∃ t : Nat, t ≤ wd ∧ i = .int .i64 (t : Int) ∧ m = .int .u64 (tnR (fShrS a n wd) t : Int)) (fun _ i => wd - (intOf i).toNat)
  case atStart => exact ⟨0, Nat.zero_le _, rfl, rfl⟩
  case round =>
    obtain ⟨t, ht, rfl, rfl⟩ := hrel
    by_cases hlt : t < wd
    · have hf := HF.out
      by_cases hc : t + n < wd
      · have HD : Hid ((fShrS a n wd) t = dig a (t + n)) := by show _ = _; unfold fShrS; rw [if_pos hc]
        have HS := Lib.hid (tn_step ((fShrS a n wd)) hf t (by omega) _ HD.out)
        have HB := Lib.hid (fun W (x : Int) (hx : x = ((t + n : Nat) : Int)) => bit_any a x (t + n) W HV.out hx (by omega))
        have hdl := dig_le a (t + n)
        clear HD hf
        go_wp2_with (go_at_call 43; refine (HB.out _ _ (by omega)).mono ?_; rintro e w' ⟨rfl, rfl⟩)
        go_round
        case rel => exact ⟨t + 1, by omega, by go_num, by rw [← HS.out]⟩
        case measure => simp [intOf]; omega
      · have HD : Hid ((fShrS a n wd) t = dig a (wd - 1)) := by show _ = _; unfold fShrS; rw [if_neg hc]
        have HS := Lib.hid (tn_step ((fShrS a n wd)) hf t (by omega) _ HD.out)
        have HB := Lib.hid (fun W (x : Int) (hx : x = ((wd - 1 : Nat) : Int)) => bit_any a x (wd - 1) W HV.out hx (by omega))
        have hdl := dig_le a (wd - 1)
        clear HD hf
        go_wp2_with (go_at_call 43; refine (HB.out _ _ (by omega)).mono ?_; rintro e w' ⟨rfl, rfl⟩)
        go_round
        case rel => exact ⟨t + 1, by omega, by go_num, by rw [← HS.out]⟩
        case measure => simp [intOf]; omega
    · obtain rfl : wd = t := by omega
      go_wp2
      go_ret
      exact ⟨rfl, rfl⟩

set_option maxHeartbeats 2000000 in
set_option maxRecDepth 100000 in
theorem turned_shru (a n wd : Nat) (w : World) (hv : a < 18446744073709551616) (hn : n < wd) (hw : wd ≤ 64) :
    Calls Tryd.prog 38 #[.int .i64 2, .int .u64 (a : Int), .int .i64 (n : Int), .int .i64 (wd : Int)] w fun e w' => e = .returned (.int .u64 (tnR (fShrU a n wd) wd : Int)) ∧ w = w' := by
  have HV := Lib.hid hv
  clear hv
  have hf : ∀ i, (fShrU a n wd) i ≤ 1 := fun i => by unfold fShrU; split <;> first | exact dig_le _ _ | omega
  have HF := Lib.hid hf
  clear hf
  go_enter Tryd.func38, Tryd.ntmps38
  go_wp2
  go_loop [9, 10] (fun m i => ∃ t : Nat, t ≤ wd ∧ i = .int .i64 (t : Int) ∧ m = .int .u64 (tnR (fShrU a n wd) t : Int)) (fun _ i => wd - (intOf i).toNat)
  case atStart => exact ⟨0, Nat.zero_le _, rfl, rfl⟩
  case round =>
    obtain ⟨t, ht, rfl, rfl⟩ := hrel
    by_cases hlt : t < wd
    · have hf := HF.out
      by_cases hc : t + n < wd
      · have HD : Hid ((fShrU a n wd) t = dig a (t + n)) := by show _ = _; unfold fShrU; rw [if_pos hc]
        have HS := Lib.hid (tn_step ((fShrU a n wd)) hf t (by omega) _ HD.out)
        have HB := Lib.hid (fun W (x : Int) (hx : x = ((t + n : Nat) : Int)) => bit_any a x (t + n) W HV.out hx (by omega))
        have hdl := dig_le a (t + n)
        clear HD hf
        go_wp2_with (go_at_call 43; refine (HB.out _ _ (by omega)).mono ?_; rintro e w' ⟨rfl, rfl⟩)
        go_round
        case rel => exact ⟨t + 1, by omega, by go_num, by rw [← HS.out]⟩
        case measure => simp [intOf]; omega
      · have HD : Hid ((fShrU a n wd) t = 0) := by show _ = _; unfold fShrU; rw [if_neg hc]
        have HS := Lib.hid (tn_zero ((fShrU a n wd)) hf t (by omega) HD.out)
        clear HD hf
        go_wp2
        go_round
        case rel => exact ⟨t + 1, by omega, by go_num, by rw [← HS.out]⟩
        case measure => simp [intOf]; omega
    · obtain rfl : wd = t := by omega
      go_wp2
      go_ret
      exact ⟨rfl, rfl⟩

set_option maxHeartbeats 2000000 in
set_option maxRecDepth 100000 in
theorem turned_rotl (a n wd : Nat) (w : World) (hv : a < 18446744073709551616) (hn : n < wd) (hw : wd ≤ 64) :
    Calls Tryd.prog 38 #[.int .i64 3, .int .u64 (a : Int), .int .i64 (n : Int), .int .i64 (wd : Int)] w fun e w' => e = .returned (.int .u64 (tnR (fRotl a n wd) wd : Int)) ∧ w = w' := by
  have HV := Lib.hid hv
  clear hv
  have hf : ∀ i, (fRotl a n wd) i ≤ 1 := fun i => by unfold fRotl; split <;> first | exact dig_le _ _ | omega
  have HF := Lib.hid hf
  clear hf
  go_enter Tryd.func38, Tryd.ntmps38
  go_wp2
  go_loop [9, 10] (fun m i => ∃ t : Nat, t ≤ wd ∧ i = .int .i64 (t : Int) ∧ m = .int .u64 (tnR (fRotl a n wd) t : Int)) (fun _ i => wd - (intOf i).toNat)
  case atStart => exact ⟨0, Nat.zero_le _, rfl, rfl⟩
  case round =>
    obtain ⟨t, ht, rfl, rfl⟩ := hrel
    by_cases hlt : t < wd
    · have hf := HF.out
      by_cases hc : n ≤ t
      · have HD : Hid ((fRotl a n wd) t = dig a (t - n)) := by show _ = _; unfold fRotl; rw [if_pos hc]
        have HS := Lib.hid (tn_step ((fRotl a n wd)) hf t (by omega) _ HD.out)
        have HB := Lib.hid (fun W (x : Int) (hx : x = ((t - n : Nat) : Int)) => bit_any a x (t - n) W HV.out hx (by omega))
        have hdl := dig_le a (t - n)
        clear HD hf
        go_wp2_with (go_at_call 43; refine (HB.out _ _ (by omega)).mono ?_; rintro e w' ⟨rfl, rfl⟩)
        go_round
        case rel => exact ⟨t + 1, by omega, by go_num, by rw [← HS.out]⟩
        case measure => simp [intOf]; omega
      · have HD : Hid ((fRotl a n wd) t = dig a (t + wd - n)) := by show _ = _; unfold fRotl; rw [if_neg hc]
        have HS := Lib.hid (tn_step ((fRotl a n wd)) hf t (by omega) _ HD.out)
        have HB := Lib.hid (fun W (x : Int) (hx : x = ((t + wd - n : Nat) : Int)) => bit_any a x (t + wd - n) W HV.out hx (by omega))
        have hdl := dig_le a (t + wd - n)
        clear HD hf
        go_wp2_with (go_at_call 43; refine (HB.out _ _ (by exact mod_l t n wd (by omega) hn)).mono ?_; rintro e w' ⟨rfl, rfl⟩)
        go_round
        case rel => exact ⟨t + 1, by omega, by go_num, by rw [← HS.out]⟩
        case measure => simp [intOf]; omega
    · obtain rfl : wd = t := by omega
      go_wp2
      go_ret
      exact ⟨rfl, rfl⟩

set_option maxHeartbeats 2000000 in
set_option maxRecDepth 100000 in
theorem turned_rotr (a n wd : Nat) (w : World) (hv : a < 18446744073709551616) (hn : n < wd) (hw : wd ≤ 64) :
    Calls Tryd.prog 38 #[.int .i64 4, .int .u64 (a : Int), .int .i64 (n : Int), .int .i64 (wd : Int)] w fun e w' => e = .returned (.int .u64 (tnR (fRotr a n wd) wd : Int)) ∧ w = w' := by
  have HV := Lib.hid hv
  clear hv
  have hf : ∀ i, (fRotr a n wd) i ≤ 1 := fun i => by unfold fRotr; split <;> first | exact dig_le _ _ | omega
  have HF := Lib.hid hf
  clear hf
  go_enter Tryd.func38, Tryd.ntmps38
  go_wp2
  go_loop [9, 10] (fun m i => ∃ t : Nat, t ≤ wd ∧ i = .int .i64 (t : Int) ∧ m = .int .u64 (tnR (fRotr a n wd) t : Int)) (fun _ i => wd - (intOf i).toNat)
  case atStart => exact ⟨0, Nat.zero_le _, rfl, rfl⟩
  case round =>
    obtain ⟨t, ht, rfl, rfl⟩ := hrel
    by_cases hlt : t < wd
    · have hf := HF.out
      by_cases hc : t + n < wd
      · have HD : Hid ((fRotr a n wd) t = dig a (t + n)) := by show _ = _; unfold fRotr; rw [if_pos hc]
        have HS := Lib.hid (tn_step ((fRotr a n wd)) hf t (by omega) _ HD.out)
        have HB := Lib.hid (fun W (x : Int) (hx : x = ((t + n : Nat) : Int)) => bit_any a x (t + n) W HV.out hx (by omega))
        have hdl := dig_le a (t + n)
        clear HD hf
        go_wp2_with (go_at_call 43; refine (HB.out _ _ (by omega)).mono ?_; rintro e w' ⟨rfl, rfl⟩)
        go_round
        case rel => exact ⟨t + 1, by omega, by go_num, by rw [← HS.out]⟩
        case measure => simp [intOf]; omega
      · have HD : Hid ((fRotr a n wd) t = dig a (t + n - wd)) := by show _ = _; unfold fRotr; rw [if_neg hc]
        have HS := Lib.hid (tn_step ((fRotr a n wd)) hf t (by omega) _ HD.out)
        have HB := Lib.hid (fun W (x : Int) (hx : x = ((t + n - wd : Nat) : Int)) => bit_any a x (t + n - wd) W HV.out hx (by omega))
        have hdl := dig_le a (t + n - wd)
        clear HD hf
        go_wp2_with (go_at_call 43; refine (HB.out _ _ (by exact mod_r t n wd hlt hn (by omega))).mono ?_; rintro e w' ⟨rfl, rfl⟩)
        go_round
        case rel => exact ⟨t + 1, by omega, by go_num, by rw [← HS.out]⟩
        case measure => simp [intOf]; omega
    · obtain rfl : wd = t := by omega
      go_wp2
      go_ret
      exact ⟨rfl, rfl⟩

end Go.Proofs.YtoclfldmkipokaaDoor.Ints
