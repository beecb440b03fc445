/- The document's counting and comparing of layer 2, walked. -/
import Derived.Test.YtoclfldmkipokaaDoorIntsRef
namespace Go.Proofs.YtoclfldmkipokaaDoor.Ints
open Go.RowKit

set_option maxHeartbeats 1000000 in
set_option maxRecDepth 100000 in
theorem counted_ctz (v n : Nat) (w : World) (hv : v < 18446744073709551616) (hn : n ≤ 64) :
    Calls Tryd.prog 35 #[.int .i64 1, .int .u64 (v : Int), .int .i64 (n : Int)] w fun e w' => e = .returned (.int .u64 (ctzR v 0 n : Int)) ∧ w = w' := by
  have HV := Lib.hid hv
  clear hv
  have hle := ctzR_le v n 0
  go_enter Tryd.func35, Tryd.ntmps35
  go_wp2
  go_loop [7, 8] (fun m i => ∃ t : Nat, t ≤ n ∧ i = .int .i64 (t : Int) ∧ m = .int .u64 (t : Int) ∧ ctzR v t (n - t) + t = ctzR v 0 n) (fun _ i => n - (intOf i).toNat)
  case atStart => exact ⟨0, Nat.zero_le _, rfl, rfl, rfl⟩
  case round =>
    obtain ⟨t, ht, rfl, rfl, heq⟩ := hrel
    have HE := Lib.hid heq
    clear heq
    by_cases hlt : t < n
    · have HB := Lib.hid (fun W => bit_any v (t : Int) t W HV.out rfl (by omega))
      by_cases hd : dig v t = 0
      · have HN : Hid (ctzR v (t + 1) (n - (t + 1)) + (t + 1) = ctzR v 0 n) := by
          show _ = _
          rw [← HE.out, show n - t = (n - (t + 1)) + 1 from by omega]
          conv => rhs; rw [ctzR, if_pos hd]
          omega
        have hd0 : ((dig v t : Int) == 0) = true := by rw [hd]; rfl
        clear hd
        go_wp2_with (go_at_call 43; refine (HB.out _).mono ?_; rintro e w' ⟨rfl, rfl⟩)
        go_round
        case rel => exact ⟨t + 1, by omega, by go_num, by go_num, HN.out⟩
        case measure => simp [intOf]; omega
      · have HN : Hid (t = ctzR v 0 n) := by
          show _ = _
          rw [← HE.out, show n - t = (n - (t + 1)) + 1 from by omega, ctzR, if_neg hd]
          omega
        have hd0 : ((dig v t : Int) == 0) = false := by simp; omega
        clear hd
        go_wp2_with (go_at_call 43; refine (HB.out _).mono ?_; rintro e w' ⟨rfl, rfl⟩)
        go_ret
        exact ⟨ret_int (by rw [← HN.out]), rfl⟩
    · obtain rfl : n = t := by omega
      go_wp2
      go_ret
      exact ⟨ret_int (by have := HE.out; rw [Nat.sub_self] at this; simp [ctzR] at this; omega), rfl⟩

set_option maxHeartbeats 1000000 in
set_option maxRecDepth 100000 in
theorem counted_pop (v n : Nat) (w : World) (hv : v < 18446744073709551616) (hn : n ≤ 64) :
    Calls Tryd.prog 35 #[.int .i64 2, .int .u64 (v : Int), .int .i64 (n : Int)] w fun e w' => e = .returned (.int .u64 (popR v n : Int)) ∧ w = w' := by
  have HV := Lib.hid hv
  clear hv
  go_enter Tryd.func35, Tryd.ntmps35
  go_wp2
  go_loop [7, 8] (fun m i => ∃ t : Nat, t ≤ n ∧ i = .int .i64 (t : Int) ∧ m = .int .u64 (popR v t : Int)) (fun _ i => n - (intOf i).toNat)
  case atStart => exact ⟨0, Nat.zero_le _, rfl, rfl⟩
  case round =>
    obtain ⟨t, ht, rfl, rfl⟩ := hrel
    by_cases hlt : t < n
    · have HB := Lib.hid (fun W => bit_any v (t : Int) t W HV.out rfl (by omega))
      have hp := popR_le v t
      by_cases hd : dig v t = 0
      · have HN : Hid (popR v (t + 1) = popR v t) := by show _ = _; rw [popR, hd]; rfl
        have hd0 : ((dig v t : Int) == 0) = true := by rw [hd]; rfl
        have hd1 : ((dig v t : Int) == 1) = false := by rw [hd]; rfl
        clear hd
        go_wp2_with (go_at_call 43; refine (HB.out _).mono ?_; rintro e w' ⟨rfl, rfl⟩)
        go_round
        case rel => exact ⟨t + 1, by omega, by go_num, by rw [HN.out]⟩
        case measure => simp [intOf]; omega
      · have hone : dig v t = 1 := by have := dig_le v t; omega
        have HN : Hid (popR v (t + 1) = popR v t + 1) := by show _ = _; rw [popR, hone]
        have hd0 : ((dig v t : Int) == 0) = false := by rw [hone]; rfl
        have hd1 : ((dig v t : Int) == 1) = true := by rw [hone]; rfl
        clear hd hone
        go_wp2_with (go_at_call 43; refine (HB.out _).mono ?_; rintro e w' ⟨rfl, rfl⟩)
        go_round
        case rel => exact ⟨t + 1, by omega, by go_num, by rw [HN.out]; go_num⟩
        case measure => simp [intOf]; omega
    · obtain rfl : n = t := by omega
      go_wp2
      go_ret
      exact ⟨rfl, rfl⟩

/-- The ten comparisons, over the numbers and their signed numbers. -/
def cmpN (k a b x y : Int) : Bool :=
  if k = 1 then a == b else if k = 2 then a != b else if k = 3 then decide (x < y) else if k = 4 then decide (a < b) else if k = 5 then decide (y < x) else if k = 6 then decide (b < a)
  else if k = 7 then decide (x ≤ y) else if k = 8 then decide (a ≤ b) else if k = 9 then decide (y ≤ x) else decide (b ≤ a)

set_option maxHeartbeats 2000000 in
set_option maxRecDepth 100000 in
theorem compare_of (k a b n x y : Int) (w : World) (hk1 : 1 ≤ k) (hk : k ≤ 10)
    (hx : ∀ W, Calls Tryd.prog 33 #[.int .u64 a, .int .i64 n] W fun e w' => e = .returned (.int .i64 x) ∧ W = w')
    (hy : ∀ W, Calls Tryd.prog 33 #[.int .u64 b, .int .i64 n] W fun e w' => e = .returned (.int .i64 y) ∧ W = w') :
    Calls Tryd.prog 36 #[.int .i64 k, .int .u64 a, .int .u64 b, .int .i64 n] w fun e w' => e = .returned (.bool (cmpN k a b x y)) ∧ w = w' := by
  have HX := Lib.hid hx
  have HY := Lib.hid hy
  clear hx hy
  have hc : k = 1 ∨ k = 2 ∨ k = 3 ∨ k = 4 ∨ k = 5 ∨ k = 6 ∨ k = 7 ∨ k = 8 ∨ k = 9 ∨ k = 10 := by omega
  clear hk1 hk
  rcases hc with rfl | rfl | rfl | rfl | rfl | rfl | rfl | rfl | rfl | rfl <;>
  · go_enter Tryd.func36, Tryd.ntmps36
    go_wp2_with fail
    refine (HX.out _).mono ?_
    rintro e w' ⟨rfl, rfl⟩
    go_wp2_with fail
    refine (HY.out _).mono ?_
    rintro e w' ⟨rfl, rfl⟩
    go_wp2_with fail
    go_ret
    exact ⟨ret_bool (by simp [cmpN]), rfl⟩
end Go.Proofs.YtoclfldmkipokaaDoor.Ints
