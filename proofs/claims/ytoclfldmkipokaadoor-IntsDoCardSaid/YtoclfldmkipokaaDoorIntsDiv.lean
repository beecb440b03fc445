/- The document's division of layer 2, walked. -/
import Derived.Test.YtoclfldmkipokaaDoorIntsTurn
namespace Go.Proofs.YtoclfldmkipokaaDoor.Ints
open Go.RowKit

theorem ret_two {k1 k2 : IntKind} {a b c d : Int} (h : a = b) (h2 : c = d) : Ending.returned (.tuple #[.int k1 a, .int k2 c]) = .returned (.tuple #[.int k1 b, .int k2 d]) := by rw [h, h2]
theorem lo32 (q : Int) : IntKind.u64.wrap (wrap64 q) % 4294967296 = q % 4294967296 := by rw [IntKind.wrap_u64]; unfold wrap64; omega
theorem lo64 (q : Int) : IntKind.u64.wrap (wrap64 q) = q % 18446744073709551616 := by rw [IntKind.wrap_u64]; unfold wrap64; omega
theorem lu32 (q : Int) : IntKind.u64.wrap q % 4294967296 = q % 4294967296 := by rw [IntKind.wrap_u64]; omega
theorem lu64 (q : Int) : IntKind.u64.wrap q = q % 18446744073709551616 := by rw [IntKind.wrap_u64]
theorem wrapu_nonneg (q : Int) : 0 ≤ IntKind.u64.wrap q := by rw [IntKind.wrap_u64]; omega

set_option maxHeartbeats 1000000 in
set_option maxRecDepth 100000 in
theorem div32_zero (what a : Int) (w : World) : Calls Tryd.prog 37 #[.int .i64 what, .int .u64 a, .int .u64 0, .int .i64 32] w fun e w' => e = .returned (.tuple #[.int .u64 0, .int .i64 2]) ∧ w = w' := by
  go_enter Tryd.func37, Tryd.ntmps37
  go_wp2
  go_ret2
  exact ⟨rfl, rfl⟩
set_option maxHeartbeats 1000000 in
set_option maxRecDepth 100000 in
theorem div32_u (a b : Int) (w : World) (ha0 : 0 ≤ a) (ha1 : a ≤ 4294967295) (hb0 : 0 ≤ b) (hb1 : b ≤ 4294967295) (hb : b ≠ 0) : Calls Tryd.prog 37 #[.int .i64 1, .int .u64 a, .int .u64 b, .int .i64 32] w fun e w' => e = .returned (.tuple #[.int .u64 (a / b), .int .i64 0]) ∧ w = w' := by
  have hbb : (b == 0) = false := by simpa using hb
  have hb2 : 1 ≤ b := by omega
  clear hb
  go_enter Tryd.func37, Tryd.ntmps37
  go_wp2
  go_ret2
  exact ⟨rfl, rfl⟩
set_option maxHeartbeats 1000000 in
set_option maxRecDepth 100000 in
theorem rem32_u (a b : Int) (w : World) (ha0 : 0 ≤ a) (ha1 : a ≤ 4294967295) (hb0 : 0 ≤ b) (hb1 : b ≤ 4294967295) (hb : b ≠ 0) : Calls Tryd.prog 37 #[.int .i64 3, .int .u64 a, .int .u64 b, .int .i64 32] w fun e w' => e = .returned (.tuple #[.int .u64 (a % b), .int .i64 0]) ∧ w = w' := by
  have hbb : (b == 0) = false := by simpa using hb
  have hb2 : 1 ≤ b := by omega
  clear hb
  go_enter Tryd.func37, Tryd.ntmps37
  go_wp2
  go_ret2
  exact ⟨rfl, rfl⟩
set_option maxHeartbeats 1000000 in
set_option maxRecDepth 100000 in
theorem div32_s (a b : Int) (w : World) (ha0 : 0 ≤ a) (ha1 : a ≤ 4294967295) (hb0 : 0 ≤ b) (hb1 : b ≤ 4294967295) (hb : b ≠ 0) (hy : sg32 b ≠ -1) : Calls Tryd.prog 37 #[.int .i64 0, .int .u64 a, .int .u64 b, .int .i64 32] w fun e w' => e = .returned (.tuple #[.int .u64 ((sg32 a).tdiv (sg32 b) % 4294967296), .int .i64 0]) ∧ w = w' := by
  have hbb : (b == 0) = false := by simpa using hb
  have hyb : (sg32 b == -1) = false := by simpa using hy
  have y0 : ¬ sg32 b = 0 := by unfold sg32; split <;> omega
  have HL := Lib.hid (lo32 ((sg32 a).tdiv (sg32 b)))
  clear hb hy
  go_enter Tryd.func37, Tryd.ntmps37
  go_wp2_with (first | (go_at_call 33; refine (signed_32 _ _ (by omega) (by omega)).mono ?_; rintro e w' ⟨rfl, rfl⟩) | (go_at_call 32; refine (low_32 _ _ (wrapu_nonneg _)).mono ?_; rintro e w' ⟨rfl, rfl⟩))
  go_ret2
  exact ⟨ret_two HL.out rfl, rfl⟩
set_option maxHeartbeats 1000000 in
set_option maxRecDepth 100000 in
theorem rem32_s (a b : Int) (w : World) (ha0 : 0 ≤ a) (ha1 : a ≤ 4294967295) (hb0 : 0 ≤ b) (hb1 : b ≤ 4294967295) (hb : b ≠ 0) (hy : sg32 b ≠ -1) : Calls Tryd.prog 37 #[.int .i64 2, .int .u64 a, .int .u64 b, .int .i64 32] w fun e w' => e = .returned (.tuple #[.int .u64 ((sg32 a).tmod (sg32 b) % 4294967296), .int .i64 0]) ∧ w = w' := by
  have hbb : (b == 0) = false := by simpa using hb
  have hyb : (sg32 b == -1) = false := by simpa using hy
  have y0 : ¬ sg32 b = 0 := by unfold sg32; split <;> omega
  have HL := Lib.hid (lu32 ((sg32 a).tmod (sg32 b)))
  clear hb hy
  go_enter Tryd.func37, Tryd.ntmps37
  go_wp2_with (first | (go_at_call 33; refine (signed_32 _ _ (by omega) (by omega)).mono ?_; rintro e w' ⟨rfl, rfl⟩) | (go_at_call 32; refine (low_32 _ _ (wrapu_nonneg _)).mono ?_; rintro e w' ⟨rfl, rfl⟩))
  go_ret2
  exact ⟨ret_two HL.out rfl, rfl⟩
set_option maxHeartbeats 1000000 in
set_option maxRecDepth 100000 in
theorem rem32_one (a b : Int) (w : World) (ha0 : 0 ≤ a) (ha1 : a ≤ 4294967295) (hb0 : 0 ≤ b) (hb1 : b ≤ 4294967295) (hy : sg32 b = -1) : Calls Tryd.prog 37 #[.int .i64 2, .int .u64 a, .int .u64 b, .int .i64 32] w fun e w' => e = .returned (.tuple #[.int .u64 0, .int .i64 0]) ∧ w = w' := by
  have hb : b ≠ 0 := by intro h; subst h; exact absurd hy (by decide)
  have hbb : (b == 0) = false := by simpa using hb
  have hyb : (sg32 b == -1) = true := by simpa using hy
  clear hb hy
  go_enter Tryd.func37, Tryd.ntmps37
  go_wp2_with (first | (go_at_call 33; refine (signed_32 _ _ (by omega) (by omega)).mono ?_; rintro e w' ⟨rfl, rfl⟩))
  go_ret2
  exact ⟨rfl, rfl⟩
set_option maxHeartbeats 1000000 in
set_option maxRecDepth 100000 in
theorem div32_over (a b : Int) (w : World) (ha0 : 0 ≤ a) (ha1 : a ≤ 4294967295) (hb0 : 0 ≤ b) (hb1 : b ≤ 4294967295) (hy : sg32 b = -1) (hle : a = 2147483648) : Calls Tryd.prog 37 #[.int .i64 0, .int .u64 a, .int .u64 b, .int .i64 32] w fun e w' => e = .returned (.tuple #[.int .u64 0, .int .i64 3]) ∧ w = w' := by
  have hb : b ≠ 0 := by intro h; subst h; exact absurd hy (by decide)
  have hbb : (b == 0) = false := by simpa using hb
  have hyb : (sg32 b == -1) = true := by simpa using hy
  subst hle
  clear hb hy
  go_enter Tryd.func37, Tryd.ntmps37
  go_wp2_with (first | (go_at_call 33; refine (signed_32 _ _ (by omega) (by omega)).mono ?_; rintro e w' ⟨rfl, rfl⟩))
  go_ret2
  exact ⟨rfl, rfl⟩
set_option maxHeartbeats 1000000 in
set_option maxRecDepth 100000 in
theorem div32_neg (a b : Int) (w : World) (ha0 : 0 ≤ a) (ha1 : a ≤ 4294967295) (hb0 : 0 ≤ b) (hb1 : b ≤ 4294967295) (hy : sg32 b = -1) (hle : a ≠ 2147483648) : Calls Tryd.prog 37 #[.int .i64 0, .int .u64 a, .int .u64 b, .int .i64 32] w fun e w' => e = .returned (.tuple #[.int .u64 ((-sg32 a) % 4294967296), .int .i64 0]) ∧ w = w' := by
  have hb : b ≠ 0 := by intro h; subst h; exact absurd hy (by decide)
  have hbb : (b == 0) = false := by simpa using hb
  have hyb : (sg32 b == -1) = true := by simpa using hy
  have hab : (a == 2147483648) = false := by simpa using hle
  have HL := Lib.hid (lo32 (-sg32 a))
  clear hb hy hle
  go_enter Tryd.func37, Tryd.ntmps37
  go_wp2_with (first | (go_at_call 33; refine (signed_32 _ _ (by omega) (by omega)).mono ?_; rintro e w' ⟨rfl, rfl⟩) | (go_at_call 32; refine (low_32 _ _ (wrapu_nonneg _)).mono ?_; rintro e w' ⟨rfl, rfl⟩))
  go_ret2
  exact ⟨ret_two HL.out rfl, rfl⟩
set_option maxHeartbeats 1000000 in
set_option maxRecDepth 100000 in
theorem div64_zero (what a : Int) (w : World) : Calls Tryd.prog 37 #[.int .i64 what, .int .u64 a, .int .u64 0, .int .i64 64] w fun e w' => e = .returned (.tuple #[.int .u64 0, .int .i64 2]) ∧ w = w' := by
  go_enter Tryd.func37, Tryd.ntmps37
  go_wp2
  go_ret2
  exact ⟨rfl, rfl⟩
set_option maxHeartbeats 1000000 in
set_option maxRecDepth 100000 in
theorem div64_u (a b : Int) (w : World) (ha0 : 0 ≤ a) (ha1 : a ≤ 18446744073709551615) (hb0 : 0 ≤ b) (hb1 : b ≤ 18446744073709551615) (hb : b ≠ 0) : Calls Tryd.prog 37 #[.int .i64 1, .int .u64 a, .int .u64 b, .int .i64 64] w fun e w' => e = .returned (.tuple #[.int .u64 (a / b), .int .i64 0]) ∧ w = w' := by
  have hbb : (b == 0) = false := by simpa using hb
  have hb2 : 1 ≤ b := by omega
  clear hb
  go_enter Tryd.func37, Tryd.ntmps37
  go_wp2
  go_ret2
  exact ⟨rfl, rfl⟩
set_option maxHeartbeats 1000000 in
set_option maxRecDepth 100000 in
theorem rem64_u (a b : Int) (w : World) (ha0 : 0 ≤ a) (ha1 : a ≤ 18446744073709551615) (hb0 : 0 ≤ b) (hb1 : b ≤ 18446744073709551615) (hb : b ≠ 0) : Calls Tryd.prog 37 #[.int .i64 3, .int .u64 a, .int .u64 b, .int .i64 64] w fun e w' => e = .returned (.tuple #[.int .u64 (a % b), .int .i64 0]) ∧ w = w' := by
  have hbb : (b == 0) = false := by simpa using hb
  have hb2 : 1 ≤ b := by omega
  clear hb
  go_enter Tryd.func37, Tryd.ntmps37
  go_wp2
  go_ret2
  exact ⟨rfl, rfl⟩
set_option maxHeartbeats 1000000 in
set_option maxRecDepth 100000 in
theorem div64_s (a b : Int) (w : World) (ha0 : 0 ≤ a) (ha1 : a ≤ 18446744073709551615) (hb0 : 0 ≤ b) (hb1 : b ≤ 18446744073709551615) (hb : b ≠ 0) (hy : sg64 b ≠ -1) : Calls Tryd.prog 37 #[.int .i64 0, .int .u64 a, .int .u64 b, .int .i64 64] w fun e w' => e = .returned (.tuple #[.int .u64 ((sg64 a).tdiv (sg64 b) % 18446744073709551616), .int .i64 0]) ∧ w = w' := by
  have hbb : (b == 0) = false := by simpa using hb
  have hyb : (sg64 b == -1) = false := by simpa using hy
  have y0 : ¬ sg64 b = 0 := by unfold sg64; split <;> omega
  have HL := Lib.hid (lo64 ((sg64 a).tdiv (sg64 b)))
  clear hb hy
  go_enter Tryd.func37, Tryd.ntmps37
  go_wp2_with (first | (go_at_call 33; refine (signed_64 _ _ (by omega) (by omega)).mono ?_; rintro e w' ⟨rfl, rfl⟩) | (go_at_call 32; refine (low_64 _ _).mono ?_; rintro e w' ⟨rfl, rfl⟩))
  go_ret2
  exact ⟨ret_two HL.out rfl, rfl⟩
set_option maxHeartbeats 1000000 in
set_option maxRecDepth 100000 in
theorem rem64_s (a b : Int) (w : World) (ha0 : 0 ≤ a) (ha1 : a ≤ 18446744073709551615) (hb0 : 0 ≤ b) (hb1 : b ≤ 18446744073709551615) (hb : b ≠ 0) (hy : sg64 b ≠ -1) : Calls Tryd.prog 37 #[.int .i64 2, .int .u64 a, .int .u64 b, .int .i64 64] w fun e w' => e = .returned (.tuple #[.int .u64 ((sg64 a).tmod (sg64 b) % 18446744073709551616), .int .i64 0]) ∧ w = w' := by
  have hbb : (b == 0) = false := by simpa using hb
  have hyb : (sg64 b == -1) = false := by simpa using hy
  have y0 : ¬ sg64 b = 0 := by unfold sg64; split <;> omega
  have HL := Lib.hid (lu64 ((sg64 a).tmod (sg64 b)))
  clear hb hy
  go_enter Tryd.func37, Tryd.ntmps37
  go_wp2_with (first | (go_at_call 33; refine (signed_64 _ _ (by omega) (by omega)).mono ?_; rintro e w' ⟨rfl, rfl⟩) | (go_at_call 32; refine (low_64 _ _).mono ?_; rintro e w' ⟨rfl, rfl⟩))
  go_ret2
  exact ⟨ret_two HL.out rfl, rfl⟩
set_option maxHeartbeats 1000000 in
set_option maxRecDepth 100000 in
theorem rem64_one (a b : Int) (w : World) (ha0 : 0 ≤ a) (ha1 : a ≤ 18446744073709551615) (hb0 : 0 ≤ b) (hb1 : b ≤ 18446744073709551615) (hy : sg64 b = -1) : Calls Tryd.prog 37 #[.int .i64 2, .int .u64 a, .int .u64 b, .int .i64 64] w fun e w' => e = .returned (.tuple #[.int .u64 0, .int .i64 0]) ∧ w = w' := by
  have hb : b ≠ 0 := by intro h; subst h; exact absurd hy (by decide)
  have hbb : (b == 0) = false := by simpa using hb
  have hyb : (sg64 b == -1) = true := by simpa using hy
  clear hb hy
  go_enter Tryd.func37, Tryd.ntmps37
  go_wp2_with (first | (go_at_call 33; refine (signed_64 _ _ (by omega) (by omega)).mono ?_; rintro e w' ⟨rfl, rfl⟩))
  go_ret2
  exact ⟨rfl, rfl⟩
set_option maxHeartbeats 1000000 in
set_option maxRecDepth 100000 in
theorem div64_over (a b : Int) (w : World) (ha0 : 0 ≤ a) (ha1 : a ≤ 18446744073709551615) (hb0 : 0 ≤ b) (hb1 : b ≤ 18446744073709551615) (hy : sg64 b = -1) (hle : a = 9223372036854775808) : Calls Tryd.prog 37 #[.int .i64 0, .int .u64 a, .int .u64 b, .int .i64 64] w fun e w' => e = .returned (.tuple #[.int .u64 0, .int .i64 3]) ∧ w = w' := by
  have hb : b ≠ 0 := by intro h; subst h; exact absurd hy (by decide)
  have hbb : (b == 0) = false := by simpa using hb
  have hyb : (sg64 b == -1) = true := by simpa using hy
  subst hle
  clear hb hy
  go_enter Tryd.func37, Tryd.ntmps37
  go_wp2_with (first | (go_at_call 33; refine (signed_64 _ _ (by omega) (by omega)).mono ?_; rintro e w' ⟨rfl, rfl⟩))
  go_ret2
  exact ⟨rfl, rfl⟩
set_option maxHeartbeats 1000000 in
set_option maxRecDepth 100000 in
theorem div64_neg (a b : Int) (w : World) (ha0 : 0 ≤ a) (ha1 : a ≤ 18446744073709551615) (hb0 : 0 ≤ b) (hb1 : b ≤ 18446744073709551615) (hy : sg64 b = -1) (hle : a ≠ 9223372036854775808) : Calls Tryd.prog 37 #[.int .i64 0, .int .u64 a, .int .u64 b, .int .i64 64] w fun e w' => e = .returned (.tuple #[.int .u64 ((-sg64 a) % 18446744073709551616), .int .i64 0]) ∧ w = w' := by
  have hb : b ≠ 0 := by intro h; subst h; exact absurd hy (by decide)
  have hbb : (b == 0) = false := by simpa using hb
  have hyb : (sg64 b == -1) = true := by simpa using hy
  have hab : (a == 9223372036854775808) = false := by simpa using hle
  have HL := Lib.hid (lo64 (-sg64 a))
  clear hb hy hle
  go_enter Tryd.func37, Tryd.ntmps37
  go_wp2_with (first | (go_at_call 33; refine (signed_64 _ _ (by omega) (by omega)).mono ?_; rintro e w' ⟨rfl, rfl⟩) | (go_at_call 32; refine (low_64 _ _).mono ?_; rintro e w' ⟨rfl, rfl⟩))
  go_ret2
  exact ⟨ret_two HL.out rfl, rfl⟩
end Go.Proofs.YtoclfldmkipokaaDoor.Ints
