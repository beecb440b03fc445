/- The closures of layer 2's operators that count. -/
import Derived.Test.YtoclfldmkipokaaDoorIntsBits
namespace Go.Proofs.YtoclfldmkipokaaDoor.Ints
open Go.RowKit
set_option maxRecDepth 100000
set_option maxHeartbeats 1000000

theorem Tab.drew {w : World} (h : Tab w) (n : Nat) : Tab (w.drewN n) := fun j hj => by
  have := h j hj
  simpa using this
theorem bl_le {a : Int} {k : Nat} (hk : k ≤ 64) (h : a < 2 ^ k) : (Lib.bitLen a.toNat : Int) ≤ k := by
  have h2 : a.toNat < 2 ^ k := by
    have hp : 0 < 2 ^ k := Nat.pow_pos (by omega)
    have : ((2 ^ k : Nat) : Int) = 2 ^ k := by simp
    rw [← this] at h
    omega
  have := Lib.bitLen_le a.toNat k hk h2
  omega
theorem rec_103 (q : Addr) (t a b : Int) (W : World) (ht : isT t) (hq : W.cell? q = some (.int .u64 (wdT t))) (ha : inR t a) : Calls Tryd.prog 60 #[.int .u64 a, .int .u64 b, .pointer (some q)] W fun e w' => e = .returned (.int .u64 (rV t 103 a b)) ∧ Still W w' := by
  rcases ht with rfl | rfl
  · obtain ⟨a0, a1⟩ := inR_32 ha
    rw [wd32] at hq
    have hl : (Lib.bitLen a.toNat : Int) ≤ 32 := bl_le (k := 32) (by omega) (by omega)
    clear ha
    have hn : (0 : Int) ≤ (Lib.bitLen a.toNat : Int) := by omega
    have HL := Lib.hid (fun W => len64_any a W a0 (by omega))
    go_enter Tryd.func60, Tryd.ntmps60
    go_wp2_with fail
    go_quiet ((go_at_call 61; exact Calls.quiet_of_same (HL.out _)))
    go_wp2
    go_ret
    exact ⟨ret_int (by rfl), .of _⟩
  · obtain ⟨a0, a1⟩ := inR_64 ha
    rw [wd64] at hq
    have hl : (Lib.bitLen a.toNat : Int) ≤ 64 := bl_le (k := 64) (by omega) (by omega)
    clear ha
    have hn : (0 : Int) ≤ (Lib.bitLen a.toNat : Int) := by omega
    have HL := Lib.hid (fun W => len64_any a W a0 (by omega))
    go_enter Tryd.func60, Tryd.ntmps60
    go_wp2_with fail
    go_quiet ((go_at_call 61; exact Calls.quiet_of_same (HL.out _)))
    go_wp2
    go_ret
    exact ⟨ret_int (by rfl), .of _⟩
theorem ctz_le (n : Nat) (h : n < 18446744073709551616) : Lib.ctz 64 n ≤ 64 := by
  by_cases h0 : n = 0
  · subst h0; exact Nat.le_refl _
  · exact Nat.le_of_lt (Lib.lowest_bit 64 n h0 h).2
theorem rec_104 (q : Addr) (t a b : Int) (W : World) (ht : isT t) (hq : W.cell? q = some (.int .u64 (wdT t))) (ha : inR t a) (hT : Tab W) : Calls Tryd.prog 62 #[.int .u64 a, .int .u64 b, .pointer (some q)] W fun e w' => e = .returned (.int .u64 (rV t 104 a b)) ∧ Still W w' := by
  rcases ht with rfl | rfl
  · obtain ⟨a0, a1⟩ := inR_32 ha
    rw [wd32] at hq
    have hl : (Lib.ctz 64 a.toNat : Int) ≤ 64 := by have := ctz_le a.toNat (by omega); omega
    clear ha
    have hn : (0 : Int) ≤ (Lib.ctz 64 a.toNat : Int) := by omega
    have HL := Lib.hid (fun n => tz64_any a (W.drewN n) a0 (by omega) (hT.drew n))
    clear hT
    go_enter Tryd.func62, Tryd.ntmps62
    go_wp2_with fail
    go_quiet ((go_at_call 63; exact Calls.quiet_of_same (HL.out _)))
    go_wp2
    all_goals go_ret
    all_goals refine ⟨ret_int ?_, .of _⟩
    all_goals first
      | exact (if_pos (by rw [wd32]; omega)).symm
      | exact (if_neg (by rw [wd32]; omega)).symm
  · obtain ⟨a0, a1⟩ := inR_64 ha
    rw [wd64] at hq
    have hl : (Lib.ctz 64 a.toNat : Int) ≤ 64 := by have := ctz_le a.toNat (by omega); omega
    clear ha
    have hn : (0 : Int) ≤ (Lib.ctz 64 a.toNat : Int) := by omega
    have HL := Lib.hid (fun n => tz64_any a (W.drewN n) a0 (by omega) (hT.drew n))
    clear hT
    go_enter Tryd.func62, Tryd.ntmps62
    go_wp2_with fail
    go_quiet ((go_at_call 63; exact Calls.quiet_of_same (HL.out _)))
    go_wp2
    all_goals go_ret
    all_goals refine ⟨ret_int ?_, .of _⟩
    all_goals first
      | exact (if_pos (by rw [wd64]; omega)).symm
      | exact (if_neg (by rw [wd64]; omega)).symm
end Go.Proofs.YtoclfldmkipokaaDoor.Ints
