/- The document's first number, walked: the ways to its end. -/
import Derived.Test.YtkdnhhhgggmapaaUtfWords
import Derived.LoopN
namespace Go.Proofs.Ytkdnhhhgggmapaa.Utf
open Go.RowKit
set_option maxRecDepth 100000
set_option maxHeartbeats 400000

theorem first_mid (g off k : Nat) (a : Int) (len : Nat) (w : World) (h1 : 128 ≤ a) (h2 : a < 192) (hl : 1 ≤ len) (_hm : len ≤ 9223372036854775807) (c0 : w.cell? ⟨g, off, none⟩ = some (.int .u8 a)) :
    Calls Try.prog 48 #[.slice (some ⟨g, off, none⟩) len k] w fun e w' => e = .returned (.tuple #[.int .i64 0, .int .i64 0]) ∧ w = w' := by
  have t1 : decide (a < 128) = false := by simp; omega
  have t2 : decide (192 ≤ a) = false := by simp; omega
  have t3 : decide (224 ≤ a) = false := by simp; omega
  have t4 : decide (240 ≤ a) = false := by simp; omega
  go_enter Try.func48, Try.ntmps48
  go_wp2_with fail
  go_ret2
  exact ⟨rfl, rfl⟩
theorem first_top (g off k : Nat) (a : Int) (len : Nat) (w : World) (h1 : 248 ≤ a) (h2 : 192 ≤ a) (h3 : 224 ≤ a) (h4 : 240 ≤ a) (h5 : a ≤ 255) (hl : 1 ≤ len) (_hm : len ≤ 9223372036854775807) (c0 : w.cell? ⟨g, off, none⟩ = some (.int .u8 a)) :
    Calls Try.prog 48 #[.slice (some ⟨g, off, none⟩) len k] w fun e w' => e = .returned (.tuple #[.int .i64 0, .int .i64 0]) ∧ w = w' := by
  have t1 : decide (a < 128) = false := by simp; omega
  have t2 : decide (a < 224) = false := by simp; omega
  have t3 : decide (a < 240) = false := by simp; omega
  have t4 : decide (a < 248) = false := by simp; omega
  go_enter Try.func48, Try.ntmps48
  go_wp2_with fail
  go_ret2
  exact ⟨rfl, rfl⟩
theorem first_short2 (g off k : Nat) (a : Int) (len : Nat) (w : World) (h1 : 192 ≤ a) (h2 : a < 224) (hl : 1 ≤ len) (hs : len < 2) (_hm : len ≤ 9223372036854775807) (c0 : w.cell? ⟨g, off, none⟩ = some (.int .u8 a)) :
    Calls Try.prog 48 #[.slice (some ⟨g, off, none⟩) len k] w fun e w' => e = .returned (.tuple #[.int .i64 0, .int .i64 0]) ∧ w = w' := by
  have t1 : decide (a < 128) = false := by simp; omega
  have hs' : (len : Int) < 2 := by omega
  go_enter Try.func48, Try.ntmps48
  go_wp2_with fail
  go_ret2
  exact ⟨rfl, rfl⟩
theorem first_lo21 (g off k : Nat) (a b : Int) (len : Nat) (w : World) (h1 : 192 ≤ a) (h2 : a < 224)  (x0 : 0 ≤ b) (x1 : b < 128) (hl : 2 ≤ len) (_hm : len ≤ 9223372036854775807) (c0 : w.cell? ⟨g, off, none⟩ = some (.int .u8 a)) (c1 : w.cell? ⟨g, off + 1, none⟩ = some (.int .u8 b)) :
    Calls Try.prog 48 #[.slice (some ⟨g, off, none⟩) len k] w fun e w' => e = .returned (.tuple #[.int .i64 0, .int .i64 0]) ∧ w = w' := by
  have t1 : decide (a < 128) = false := by simp; omega
  have t9 : decide ((len : Int) < 2) = false := by simp; omega
  go_enter Try.func48, Try.ntmps48
  go_wp2_with fail
  refine wp_loop_rounds 1 ?_
  rw [rounds_succ]
  go_wp2_with fail
  go_ret2
  exact ⟨rfl, rfl⟩
theorem first_hi21 (g off k : Nat) (a b : Int) (len : Nat) (w : World) (h1 : 192 ≤ a) (h2 : a < 224)  (x0 : 191 < b) (x1 : b ≤ 255) (hl : 2 ≤ len) (_hm : len ≤ 9223372036854775807) (c0 : w.cell? ⟨g, off, none⟩ = some (.int .u8 a)) (c1 : w.cell? ⟨g, off + 1, none⟩ = some (.int .u8 b)) :
    Calls Try.prog 48 #[.slice (some ⟨g, off, none⟩) len k] w fun e w' => e = .returned (.tuple #[.int .i64 0, .int .i64 0]) ∧ w = w' := by
  have t1 : decide (a < 128) = false := by simp; omega
  have t9 : decide ((len : Int) < 2) = false := by simp; omega
  have t8 : decide (b < 128) = false := by simp; omega
  go_enter Try.func48, Try.ntmps48
  go_wp2_with fail
  refine wp_loop_rounds 1 ?_
  rw [rounds_succ]
  go_wp2_with fail
  go_ret2
  exact ⟨rfl, rfl⟩
theorem first_short3 (g off k : Nat) (a : Int) (len : Nat) (w : World) (h1 : 224 ≤ a) (h2 : a < 240) (hl : 1 ≤ len) (hs : len < 3) (_hm : len ≤ 9223372036854775807) (c0 : w.cell? ⟨g, off, none⟩ = some (.int .u8 a)) :
    Calls Try.prog 48 #[.slice (some ⟨g, off, none⟩) len k] w fun e w' => e = .returned (.tuple #[.int .i64 0, .int .i64 0]) ∧ w = w' := by
  have t1 : decide (a < 128) = false := by simp; omega
  have t2 : decide (a < 224) = false := by simp; omega
  have hs' : (len : Int) < 3 := by omega
  go_enter Try.func48, Try.ntmps48
  go_wp2_with fail
  go_ret2
  exact ⟨rfl, rfl⟩
theorem first_lo31 (g off k : Nat) (a b : Int) (len : Nat) (w : World) (h1 : 224 ≤ a) (h2 : a < 240)  (x0 : 0 ≤ b) (x1 : b < 128) (hl : 3 ≤ len) (_hm : len ≤ 9223372036854775807) (c0 : w.cell? ⟨g, off, none⟩ = some (.int .u8 a)) (c1 : w.cell? ⟨g, off + 1, none⟩ = some (.int .u8 b)) :
    Calls Try.prog 48 #[.slice (some ⟨g, off, none⟩) len k] w fun e w' => e = .returned (.tuple #[.int .i64 0, .int .i64 0]) ∧ w = w' := by
  have t1 : decide (a < 128) = false := by simp; omega
  have t2 : decide (a < 224) = false := by simp; omega
  have t9 : decide ((len : Int) < 3) = false := by simp; omega
  go_enter Try.func48, Try.ntmps48
  go_wp2_with fail
  refine wp_loop_rounds 1 ?_
  rw [rounds_succ]
  go_wp2_with fail
  go_ret2
  exact ⟨rfl, rfl⟩
theorem first_hi31 (g off k : Nat) (a b : Int) (len : Nat) (w : World) (h1 : 224 ≤ a) (h2 : a < 240)  (x0 : 191 < b) (x1 : b ≤ 255) (hl : 3 ≤ len) (_hm : len ≤ 9223372036854775807) (c0 : w.cell? ⟨g, off, none⟩ = some (.int .u8 a)) (c1 : w.cell? ⟨g, off + 1, none⟩ = some (.int .u8 b)) :
    Calls Try.prog 48 #[.slice (some ⟨g, off, none⟩) len k] w fun e w' => e = .returned (.tuple #[.int .i64 0, .int .i64 0]) ∧ w = w' := by
  have t1 : decide (a < 128) = false := by simp; omega
  have t2 : decide (a < 224) = false := by simp; omega
  have t9 : decide ((len : Int) < 3) = false := by simp; omega
  have t8 : decide (b < 128) = false := by simp; omega
  go_enter Try.func48, Try.ntmps48
  go_wp2_with fail
  refine wp_loop_rounds 1 ?_
  rw [rounds_succ]
  go_wp2_with fail
  go_ret2
  exact ⟨rfl, rfl⟩
theorem first_lo32 (g off k : Nat) (a b c : Int) (len : Nat) (w : World) (h1 : 224 ≤ a) (h2 : a < 240) (b1 : 128 ≤ b) (b2 : b ≤ 191) (x0 : 0 ≤ c) (x1 : c < 128) (hl : 3 ≤ len) (_hm : len ≤ 9223372036854775807) (c0 : w.cell? ⟨g, off, none⟩ = some (.int .u8 a)) (c1 : w.cell? ⟨g, off + 1, none⟩ = some (.int .u8 b)) (c2 : w.cell? ⟨g, off + 2, none⟩ = some (.int .u8 c)) :
    Calls Try.prog 48 #[.slice (some ⟨g, off, none⟩) len k] w fun e w' => e = .returned (.tuple #[.int .i64 0, .int .i64 0]) ∧ w = w' := by
  have t1 : decide (a < 128) = false := by simp; omega
  have t2 : decide (a < 224) = false := by simp; omega
  have t9 : decide ((len : Int) < 3) = false := by simp; omega
  go_enter Try.func48, Try.ntmps48
  go_wp2_with fail
  refine wp_loop_rounds 2 ?_
  rw [rounds_succ]
  go_wp2_with fail
  rw [rounds_succ]
  go_wp2_with fail
  go_ret2
  exact ⟨rfl, rfl⟩
theorem first_hi32 (g off k : Nat) (a b c : Int) (len : Nat) (w : World) (h1 : 224 ≤ a) (h2 : a < 240) (b1 : 128 ≤ b) (b2 : b ≤ 191) (x0 : 191 < c) (x1 : c ≤ 255) (hl : 3 ≤ len) (_hm : len ≤ 9223372036854775807) (c0 : w.cell? ⟨g, off, none⟩ = some (.int .u8 a)) (c1 : w.cell? ⟨g, off + 1, none⟩ = some (.int .u8 b)) (c2 : w.cell? ⟨g, off + 2, none⟩ = some (.int .u8 c)) :
    Calls Try.prog 48 #[.slice (some ⟨g, off, none⟩) len k] w fun e w' => e = .returned (.tuple #[.int .i64 0, .int .i64 0]) ∧ w = w' := by
  have t1 : decide (a < 128) = false := by simp; omega
  have t2 : decide (a < 224) = false := by simp; omega
  have t9 : decide ((len : Int) < 3) = false := by simp; omega
  have t8 : decide (c < 128) = false := by simp; omega
  go_enter Try.func48, Try.ntmps48
  go_wp2_with fail
  refine wp_loop_rounds 2 ?_
  rw [rounds_succ]
  go_wp2_with fail
  rw [rounds_succ]
  go_wp2_with fail
  go_ret2
  exact ⟨rfl, rfl⟩
theorem first_short4 (g off k : Nat) (a : Int) (len : Nat) (w : World) (h1 : 240 ≤ a) (h2 : a < 248) (hl : 1 ≤ len) (hs : len < 4) (_hm : len ≤ 9223372036854775807) (c0 : w.cell? ⟨g, off, none⟩ = some (.int .u8 a)) :
    Calls Try.prog 48 #[.slice (some ⟨g, off, none⟩) len k] w fun e w' => e = .returned (.tuple #[.int .i64 0, .int .i64 0]) ∧ w = w' := by
  have t1 : decide (a < 128) = false := by simp; omega
  have t2 : decide (a < 224) = false := by simp; omega
  have t3 : decide (a < 240) = false := by simp; omega
  have hs' : (len : Int) < 4 := by omega
  go_enter Try.func48, Try.ntmps48
  go_wp2_with fail
  go_ret2
  exact ⟨rfl, rfl⟩
theorem first_lo41 (g off k : Nat) (a b : Int) (len : Nat) (w : World) (h1 : 240 ≤ a) (h2 : a < 248)  (x0 : 0 ≤ b) (x1 : b < 128) (hl : 4 ≤ len) (_hm : len ≤ 9223372036854775807) (c0 : w.cell? ⟨g, off, none⟩ = some (.int .u8 a)) (c1 : w.cell? ⟨g, off + 1, none⟩ = some (.int .u8 b)) :
    Calls Try.prog 48 #[.slice (some ⟨g, off, none⟩) len k] w fun e w' => e = .returned (.tuple #[.int .i64 0, .int .i64 0]) ∧ w = w' := by
  have t1 : decide (a < 128) = false := by simp; omega
  have t2 : decide (a < 224) = false := by simp; omega
  have t3 : decide (a < 240) = false := by simp; omega
  have t9 : decide ((len : Int) < 4) = false := by simp; omega
  go_enter Try.func48, Try.ntmps48
  go_wp2_with fail
  refine wp_loop_rounds 1 ?_
  rw [rounds_succ]
  go_wp2_with fail
  go_ret2
  exact ⟨rfl, rfl⟩
theorem first_hi41 (g off k : Nat) (a b : Int) (len : Nat) (w : World) (h1 : 240 ≤ a) (h2 : a < 248)  (x0 : 191 < b) (x1 : b ≤ 255) (hl : 4 ≤ len) (_hm : len ≤ 9223372036854775807) (c0 : w.cell? ⟨g, off, none⟩ = some (.int .u8 a)) (c1 : w.cell? ⟨g, off + 1, none⟩ = some (.int .u8 b)) :
    Calls Try.prog 48 #[.slice (some ⟨g, off, none⟩) len k] w fun e w' => e = .returned (.tuple #[.int .i64 0, .int .i64 0]) ∧ w = w' := by
  have t1 : decide (a < 128) = false := by simp; omega
  have t2 : decide (a < 224) = false := by simp; omega
  have t3 : decide (a < 240) = false := by simp; omega
  have t9 : decide ((len : Int) < 4) = false := by simp; omega
  have t8 : decide (b < 128) = false := by simp; omega
  go_enter Try.func48, Try.ntmps48
  go_wp2_with fail
  refine wp_loop_rounds 1 ?_
  rw [rounds_succ]
  go_wp2_with fail
  go_ret2
  exact ⟨rfl, rfl⟩
theorem first_lo42 (g off k : Nat) (a b c : Int) (len : Nat) (w : World) (h1 : 240 ≤ a) (h2 : a < 248) (b1 : 128 ≤ b) (b2 : b ≤ 191) (x0 : 0 ≤ c) (x1 : c < 128) (hl : 4 ≤ len) (_hm : len ≤ 9223372036854775807) (c0 : w.cell? ⟨g, off, none⟩ = some (.int .u8 a)) (c1 : w.cell? ⟨g, off + 1, none⟩ = some (.int .u8 b)) (c2 : w.cell? ⟨g, off + 2, none⟩ = some (.int .u8 c)) :
    Calls Try.prog 48 #[.slice (some ⟨g, off, none⟩) len k] w fun e w' => e = .returned (.tuple #[.int .i64 0, .int .i64 0]) ∧ w = w' := by
  have t1 : decide (a < 128) = false := by simp; omega
  have t2 : decide (a < 224) = false := by simp; omega
  have t3 : decide (a < 240) = false := by simp; omega
  have t9 : decide ((len : Int) < 4) = false := by simp; omega
  go_enter Try.func48, Try.ntmps48
  go_wp2_with fail
  refine wp_loop_rounds 2 ?_
  rw [rounds_succ]
  go_wp2_with fail
  rw [rounds_succ]
  go_wp2_with fail
  go_ret2
  exact ⟨rfl, rfl⟩
theorem first_hi42 (g off k : Nat) (a b c : Int) (len : Nat) (w : World) (h1 : 240 ≤ a) (h2 : a < 248) (b1 : 128 ≤ b) (b2 : b ≤ 191) (x0 : 191 < c) (x1 : c ≤ 255) (hl : 4 ≤ len) (_hm : len ≤ 9223372036854775807) (c0 : w.cell? ⟨g, off, none⟩ = some (.int .u8 a)) (c1 : w.cell? ⟨g, off + 1, none⟩ = some (.int .u8 b)) (c2 : w.cell? ⟨g, off + 2, none⟩ = some (.int .u8 c)) :
    Calls Try.prog 48 #[.slice (some ⟨g, off, none⟩) len k] w fun e w' => e = .returned (.tuple #[.int .i64 0, .int .i64 0]) ∧ w = w' := by
  have t1 : decide (a < 128) = false := by simp; omega
  have t2 : decide (a < 224) = false := by simp; omega
  have t3 : decide (a < 240) = false := by simp; omega
  have t9 : decide ((len : Int) < 4) = false := by simp; omega
  have t8 : decide (c < 128) = false := by simp; omega
  go_enter Try.func48, Try.ntmps48
  go_wp2_with fail
  refine wp_loop_rounds 2 ?_
  rw [rounds_succ]
  go_wp2_with fail
  rw [rounds_succ]
  go_wp2_with fail
  go_ret2
  exact ⟨rfl, rfl⟩
theorem first_lo43 (g off k : Nat) (a b c d : Int) (len : Nat) (w : World) (h1 : 240 ≤ a) (h2 : a < 248) (b1 : 128 ≤ b) (b2 : b ≤ 191) (c1 : 128 ≤ c) (c2 : c ≤ 191) (x0 : 0 ≤ d) (x1 : d < 128) (hl : 4 ≤ len) (_hm : len ≤ 9223372036854775807) (c0 : w.cell? ⟨g, off, none⟩ = some (.int .u8 a)) (c1 : w.cell? ⟨g, off + 1, none⟩ = some (.int .u8 b)) (c2 : w.cell? ⟨g, off + 2, none⟩ = some (.int .u8 c)) (c3 : w.cell? ⟨g, off + 3, none⟩ = some (.int .u8 d)) :
    Calls Try.prog 48 #[.slice (some ⟨g, off, none⟩) len k] w fun e w' => e = .returned (.tuple #[.int .i64 0, .int .i64 0]) ∧ w = w' := by
  have t1 : decide (a < 128) = false := by simp; omega
  have t2 : decide (a < 224) = false := by simp; omega
  have t3 : decide (a < 240) = false := by simp; omega
  have t9 : decide ((len : Int) < 4) = false := by simp; omega
  go_enter Try.func48, Try.ntmps48
  go_wp2_with fail
  refine wp_loop_rounds 3 ?_
  rw [rounds_succ]
  go_wp2_with fail
  rw [rounds_succ]
  go_wp2_with fail
  rw [rounds_succ]
  go_wp2_with fail
  go_ret2
  exact ⟨rfl, rfl⟩
theorem first_hi43 (g off k : Nat) (a b c d : Int) (len : Nat) (w : World) (h1 : 240 ≤ a) (h2 : a < 248) (b1 : 128 ≤ b) (b2 : b ≤ 191) (c1 : 128 ≤ c) (c2 : c ≤ 191) (x0 : 191 < d) (x1 : d ≤ 255) (hl : 4 ≤ len) (_hm : len ≤ 9223372036854775807) (c0 : w.cell? ⟨g, off, none⟩ = some (.int .u8 a)) (c1 : w.cell? ⟨g, off + 1, none⟩ = some (.int .u8 b)) (c2 : w.cell? ⟨g, off + 2, none⟩ = some (.int .u8 c)) (c3 : w.cell? ⟨g, off + 3, none⟩ = some (.int .u8 d)) :
    Calls Try.prog 48 #[.slice (some ⟨g, off, none⟩) len k] w fun e w' => e = .returned (.tuple #[.int .i64 0, .int .i64 0]) ∧ w = w' := by
  have t1 : decide (a < 128) = false := by simp; omega
  have t2 : decide (a < 224) = false := by simp; omega
  have t3 : decide (a < 240) = false := by simp; omega
  have t9 : decide ((len : Int) < 4) = false := by simp; omega
  have t8 : decide (d < 128) = false := by simp; omega
  go_enter Try.func48, Try.ntmps48
  go_wp2_with fail
  refine wp_loop_rounds 3 ?_
  rw [rounds_succ]
  go_wp2_with fail
  rw [rounds_succ]
  go_wp2_with fail
  rw [rounds_succ]
  go_wp2_with fail
  go_ret2
  exact ⟨rfl, rfl⟩
end Go.Proofs.Ytkdnhhhgggmapaa.Utf
