/- LebLens walked: a number is as many bytes as it needs, for any three numbers. -/
import Derived.Test.YtognfgiekffmhaaLebAwake
namespace Go.Proofs.Ytognfgiekffmhaa.Leb
open Go.RowKit

set_option maxHeartbeats 1000000 in
set_option maxRecDepth 100000 in
theorem lens_neg (x y : Nat) (s : Int) (w : World) (hx : x < 18446744073709551616) (hy : y < 18446744073709551616) (h1 : -9223372036854775808 ≤ s) (h2 : s ≤ 9223372036854775807) (hs : s < 0) :
    Calls Try.prog 8 #[.int .u64 (x : Int), .int .u64 (y : Int), .int .i64 s] w fun e w' => e = .returned (.bool true) ∧ Below w.heap.size w w' := by
  have p1 := lenU_pos x
  have p2 := lenU_pos y
  have t1 := lenU_ten hx
  have t2 := lenU_ten hy
  have f4 := lenS_pos s
  have f5 := lenS_ten h1 h2
  have f6 : ((lenS (-1 - s) : Int) == (lenS s : Int)) = true := by rw [lenS_neg _ s (Nat.le_refl _)]; simp
  rcases Nat.lt_trichotomy x y with h | rfl | h
  · have f3 := lenU_mono y x y (Nat.le_refl _) (by omega)
    go_enter Try.func8, Try.ntmps8
    go_wp2_with (first | (go_at_call 10; refine (awake_any _).mono ?_; rintro e w1 ⟨rfl, hb1⟩) | (go_at_call 15; refine (LenU_any _ _ (by assumption)).mono ?_; rintro e w' ⟨rfl, rfl⟩) | (go_at_call 17; refine (LenS_any _ _ (by omega) (by omega)).mono ?_; rintro e w' ⟨rfl, rfl⟩))
    go_ret
    exact ⟨rfl, hb1⟩
  · go_enter Try.func8, Try.ntmps8
    go_wp2_with (first | (go_at_call 10; refine (awake_any _).mono ?_; rintro e w1 ⟨rfl, hb1⟩) | (go_at_call 15; refine (LenU_any _ _ (by assumption)).mono ?_; rintro e w' ⟨rfl, rfl⟩) | (go_at_call 17; refine (LenS_any _ _ (by omega) (by omega)).mono ?_; rintro e w' ⟨rfl, rfl⟩))
    go_ret
    exact ⟨rfl, hb1⟩
  · have f3 := lenU_mono x y x (Nat.le_refl _) (by omega)
    go_enter Try.func8, Try.ntmps8
    go_wp2_with (first | (go_at_call 10; refine (awake_any _).mono ?_; rintro e w1 ⟨rfl, hb1⟩) | (go_at_call 15; refine (LenU_any _ _ (by assumption)).mono ?_; rintro e w' ⟨rfl, rfl⟩) | (go_at_call 17; refine (LenS_any _ _ (by omega) (by omega)).mono ?_; rintro e w' ⟨rfl, rfl⟩))
    go_ret
    exact ⟨rfl, hb1⟩


set_option maxHeartbeats 1000000 in
set_option maxRecDepth 100000 in
theorem lens_pos (x y : Nat) (n : Nat) (w : World) (hx : x < 18446744073709551616) (hy : y < 18446744073709551616) (h2 : n ≤ 9223372036854775807) :
    Calls Try.prog 8 #[.int .u64 (x : Int), .int .u64 (y : Int), .int .i64 (n : Int)] w fun e w' => e = .returned (.bool true) ∧ Below w.heap.size w w' := by
  have p1 := lenU_pos x
  have p2 := lenU_pos y
  have t1 := lenU_ten hx
  have t2 := lenU_ten hy
  have f4 := lenS_pos (n : Int)
  have f5 := lenS_ten (v := (n : Int)) (by omega) (by omega)
  have f6 : ((lenS (-1 - (n : Int)) : Int) == (lenS (n : Int) : Int)) = true := by rw [lenS_neg _ (n : Int) (Nat.le_refl _)]; simp
  have f7 := lenS_lenU n n (Nat.le_refl _)
  obtain ⟨f8, f9⟩ := f7
  have hn : n < 18446744073709551616 := by omega
  have t3 := lenU_ten hn
  rcases Nat.lt_trichotomy x y with h | rfl | h
  · have f3 := lenU_mono y x y (Nat.le_refl _) (by omega)
    go_enter Try.func8, Try.ntmps8
    go_wp2_with (first | (go_at_call 10; refine (awake_any _).mono ?_; rintro e w1 ⟨rfl, hb1⟩) | (go_at_call 15; refine (LenU_any _ _ (by assumption)).mono ?_; rintro e w' ⟨rfl, rfl⟩) | (go_at_call 17; refine (LenS_any _ _ (by omega) (by omega)).mono ?_; rintro e w' ⟨rfl, rfl⟩))
    go_ret
    exact ⟨ret_bool (by simp; omega), hb1⟩
  · go_enter Try.func8, Try.ntmps8
    go_wp2_with (first | (go_at_call 10; refine (awake_any _).mono ?_; rintro e w1 ⟨rfl, hb1⟩) | (go_at_call 15; refine (LenU_any _ _ (by assumption)).mono ?_; rintro e w' ⟨rfl, rfl⟩) | (go_at_call 17; refine (LenS_any _ _ (by omega) (by omega)).mono ?_; rintro e w' ⟨rfl, rfl⟩))
    go_ret
    exact ⟨ret_bool (by simp; omega), hb1⟩
  · have f3 := lenU_mono x y x (Nat.le_refl _) (by omega)
    go_enter Try.func8, Try.ntmps8
    go_wp2_with (first | (go_at_call 10; refine (awake_any _).mono ?_; rintro e w1 ⟨rfl, hb1⟩) | (go_at_call 15; refine (LenU_any _ _ (by assumption)).mono ?_; rintro e w' ⟨rfl, rfl⟩) | (go_at_call 17; refine (LenS_any _ _ (by omega) (by omega)).mono ?_; rintro e w' ⟨rfl, rfl⟩))
    go_ret
    exact ⟨ret_bool (by simp; omega), hb1⟩

theorem lens_any (a b s : Int) (w : World) (ha : (Lit.int .u64 a).wf = true) (hb : (Lit.int .u64 b).wf = true) (hs : (Lit.int .i64 s).wf = true) :
    Calls Try.prog 8 #[.int .u64 a, .int .u64 b, .int .i64 s] w fun e w' => e = .returned (.bool true) ∧ Below w.heap.size w w' := by
  have b1 := bounds_u64 ha
  have b2 := bounds_u64 hb
  have b3 := bounds_i64 hs
  obtain ⟨x, rfl⟩ := Int.eq_ofNat_of_zero_le b1.1
  obtain ⟨y, rfl⟩ := Int.eq_ofNat_of_zero_le b2.1
  by_cases h0 : s < 0
  · exact lens_neg x y s w (by omega) (by omega) b3.1 b3.2 h0
  · obtain ⟨n, rfl⟩ := Int.eq_ofNat_of_zero_le (show 0 ≤ s by omega)
    exact lens_pos x y n w (by omega) (by omega) (by omega)
end Go.Proofs.Ytognfgiekffmhaa.Leb
