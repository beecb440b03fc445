/- The closures of layer 2's operators, one by one: what each answers, whatever memory lies beside what it captured. -/
import Derived.Test.YtoclfldmkipokaaDoorIntsBase
import Derived.Deep.QuietTactic
import Derived.Lib.BitFns
import Derived.Lib.TrailingZeros
import Derived.BigQuiet
namespace Go.Proofs.YtoclfldmkipokaaDoor.Ints
open Go.RowKit
set_option maxRecDepth 100000
set_option maxHeartbeats 1000000

/-- A value of a type. -/
def mxT (t : Int) : Int := if t = 127 then 4294967295 else 18446744073709551615
def inR (t a : Int) : Prop := 0 ≤ a ∧ a ≤ mxT t
theorem inR_32 {a : Int} (h : inR 127 a) : 0 ≤ a ∧ a ≤ 4294967295 := h
theorem inR_64 {a : Int} (h : inR 126 a) : 0 ≤ a ∧ a ≤ 18446744073709551615 := h
theorem inR_u {t a : Int} (h : inR t a) : u64R a := by
  refine ⟨h.1, Int.le_trans h.2 ?_⟩
  unfold mxT; split <;> omega
/-- The world as it was, but for what was drawn. -/
def Still (W w' : World) : Prop := ∃ n, w' = W.drewN n
theorem Still.rfl {W : World} : Still W W := ⟨0, by rfl⟩
theorem Still.of {W : World} (n : Nat) : Still W (W.drewN n) := ⟨n, _root_.rfl⟩
theorem sgn_q (t v : Int) (w : World) (hv : u64R v) : Calls Tryd.prog 22 #[.int .u8 t, .int .u64 v] w fun e w' => e = .returned (.int .i64 (sgT t v)) ∧ w' = w :=
  (sgn_any t v w hv).mono fun _ _ ⟨h1, h2⟩ => ⟨h1, h2.symm⟩

/-- The ten comparisons and 'is it 0'. -/
def cV (t l a b : Int) : Bool :=
  if l = 69 then a == 0 else if l = 70 then a == b else if l = 71 then a != b else if l = 72 then decide (sgT t a < sgT t b) else if l = 73 then decide (a < b)
  else if l = 74 then decide (sgT t b < sgT t a) else if l = 75 then decide (b < a) else if l = 76 then decide (sgT t a ≤ sgT t b) else if l = 77 then decide (a ≤ b)
  else if l = 78 then decide (sgT t b ≤ sgT t a) else decide (b ≤ a)
/-- What is reckoned. -/
def rV (t l a b : Int) : Int :=
  if l = 103 then wdT t - (Lib.bitLen a.toNat : Int) else if l = 104 then (if wdT t ≤ (Lib.ctz 64 a.toNat : Int) then wdT t else (Lib.ctz 64 a.toNat : Int)) else if l = 105 then (popR a.toNat 64 : Int) else
  if l = 106 then (a + b) % 18446744073709551616 else if l = 107 then (a - b) % 18446744073709551616 else if l = 108 then (a * b) % 18446744073709551616
  else if l = 109 then (sgT t a).tdiv (sgT t b) % 18446744073709551616 else if l = 110 then a / b else if l = 111 then (sgT t a).tmod (sgT t b) % 18446744073709551616 else if l = 112 then a % b
  else if l = 113 then bits .and .u64 a b else if l = 114 then bits .or .u64 a b else if l = 115 then bits .xor .u64 a b
  else if l = 116 then a * 2 ^ (b % wdT t).toNat % 18446744073709551616 else if l = 117 then sgT t a / 2 ^ (b % wdT t).toNat % 18446744073709551616 else if l = 118 then a / 2 ^ (b % wdT t).toNat
  else if l = 119 then bits .or .u64 (a * 2 ^ (b % wdT t).toNat % 18446744073709551616) (a / 2 ^ (wdT t - b % wdT t).toNat)
  else if l = 120 then bits .or .u64 (a / 2 ^ (b % wdT t).toNat) (a * 2 ^ (wdT t - b % wdT t).toNat % 18446744073709551616)
  else if l = 172 then sgT t a % 18446744073709551616 else a
theorem uw (n : Int) : IntKind.u64.wrap n = n % 18446744073709551616 := IntKind.wrap_u64 n
theorem wd32 : wdT 127 = 32 := rfl
theorem wd64 : wdT 126 = 64 := rfl

theorem cmp_69 (t a b : Int) (W : World) (ha : u64R a) (hb : u64R b) : Calls Tryd.prog 48 #[.int .u64 a, .int .u64 b] W fun e w' => e = .returned (.bool (cV t 69 a b)) ∧ Still W w' := by
  obtain ⟨a0, a1⟩ := ha
  obtain ⟨b0, b1⟩ := hb
  go_enter Tryd.func48, Tryd.ntmps48
  go_wp2
  go_ret
  exact ⟨ret_bool (by simp [cV]), .rfl⟩
theorem cmp_70 (t a b : Int) (W : World) (ha : u64R a) (hb : u64R b) : Calls Tryd.prog 49 #[.int .u64 a, .int .u64 b] W fun e w' => e = .returned (.bool (cV t 70 a b)) ∧ Still W w' := by
  obtain ⟨a0, a1⟩ := ha
  obtain ⟨b0, b1⟩ := hb
  go_enter Tryd.func49, Tryd.ntmps49
  go_wp2
  go_ret
  exact ⟨ret_bool (by simp [cV]), .rfl⟩
theorem cmp_71 (t a b : Int) (W : World) (ha : u64R a) (hb : u64R b) : Calls Tryd.prog 50 #[.int .u64 a, .int .u64 b] W fun e w' => e = .returned (.bool (cV t 71 a b)) ∧ Still W w' := by
  obtain ⟨a0, a1⟩ := ha
  obtain ⟨b0, b1⟩ := hb
  go_enter Tryd.func50, Tryd.ntmps50
  go_wp2
  go_ret
  exact ⟨ret_bool (by simp [cV]), .rfl⟩
theorem cmp_72 (p : Addr) (t a b : Int) (W : World) (hc : W.cell? p = some (.int .u8 t)) (ha : u64R a) (hb : u64R b) : Calls Tryd.prog 51 #[.int .u64 a, .int .u64 b, .pointer (some p)] W fun e w' => e = .returned (.bool (cV t 72 a b)) ∧ Still W w' := by
  obtain ⟨a0, a1⟩ := ha
  obtain ⟨b0, b1⟩ := hb
  go_enter Tryd.func51, Tryd.ntmps51
  go_wp2_with fail
  go_quiet ((go_at_call 22; exact Calls.quiet_of_same (sgn_q _ _ _ (by constructor <;> omega))))
  go_wp2
  go_ret
  exact ⟨ret_bool (by simp [cV]), .of _⟩
theorem cmp_73 (t a b : Int) (W : World) (ha : u64R a) (hb : u64R b) : Calls Tryd.prog 52 #[.int .u64 a, .int .u64 b] W fun e w' => e = .returned (.bool (cV t 73 a b)) ∧ Still W w' := by
  obtain ⟨a0, a1⟩ := ha
  obtain ⟨b0, b1⟩ := hb
  go_enter Tryd.func52, Tryd.ntmps52
  go_wp2
  go_ret
  exact ⟨ret_bool (by simp [cV]), .rfl⟩
theorem cmp_74 (p : Addr) (t a b : Int) (W : World) (hc : W.cell? p = some (.int .u8 t)) (ha : u64R a) (hb : u64R b) : Calls Tryd.prog 53 #[.int .u64 a, .int .u64 b, .pointer (some p)] W fun e w' => e = .returned (.bool (cV t 74 a b)) ∧ Still W w' := by
  obtain ⟨a0, a1⟩ := ha
  obtain ⟨b0, b1⟩ := hb
  go_enter Tryd.func53, Tryd.ntmps53
  go_wp2_with fail
  go_quiet ((go_at_call 22; exact Calls.quiet_of_same (sgn_q _ _ _ (by constructor <;> omega))))
  go_wp2
  go_ret
  exact ⟨ret_bool (by simp [cV]), .of _⟩
theorem cmp_75 (t a b : Int) (W : World) (ha : u64R a) (hb : u64R b) : Calls Tryd.prog 54 #[.int .u64 a, .int .u64 b] W fun e w' => e = .returned (.bool (cV t 75 a b)) ∧ Still W w' := by
  obtain ⟨a0, a1⟩ := ha
  obtain ⟨b0, b1⟩ := hb
  go_enter Tryd.func54, Tryd.ntmps54
  go_wp2
  go_ret
  exact ⟨ret_bool (by simp [cV]), .rfl⟩
theorem cmp_76 (p : Addr) (t a b : Int) (W : World) (hc : W.cell? p = some (.int .u8 t)) (ha : u64R a) (hb : u64R b) : Calls Tryd.prog 55 #[.int .u64 a, .int .u64 b, .pointer (some p)] W fun e w' => e = .returned (.bool (cV t 76 a b)) ∧ Still W w' := by
  obtain ⟨a0, a1⟩ := ha
  obtain ⟨b0, b1⟩ := hb
  go_enter Tryd.func55, Tryd.ntmps55
  go_wp2_with fail
  go_quiet ((go_at_call 22; exact Calls.quiet_of_same (sgn_q _ _ _ (by constructor <;> omega))))
  go_wp2
  go_ret
  exact ⟨ret_bool (by simp [cV]), .of _⟩
theorem cmp_77 (t a b : Int) (W : World) (ha : u64R a) (hb : u64R b) : Calls Tryd.prog 56 #[.int .u64 a, .int .u64 b] W fun e w' => e = .returned (.bool (cV t 77 a b)) ∧ Still W w' := by
  obtain ⟨a0, a1⟩ := ha
  obtain ⟨b0, b1⟩ := hb
  go_enter Tryd.func56, Tryd.ntmps56
  go_wp2
  go_ret
  exact ⟨ret_bool (by simp [cV]), .rfl⟩
theorem cmp_78 (p : Addr) (t a b : Int) (W : World) (hc : W.cell? p = some (.int .u8 t)) (ha : u64R a) (hb : u64R b) : Calls Tryd.prog 57 #[.int .u64 a, .int .u64 b, .pointer (some p)] W fun e w' => e = .returned (.bool (cV t 78 a b)) ∧ Still W w' := by
  obtain ⟨a0, a1⟩ := ha
  obtain ⟨b0, b1⟩ := hb
  go_enter Tryd.func57, Tryd.ntmps57
  go_wp2_with fail
  go_quiet ((go_at_call 22; exact Calls.quiet_of_same (sgn_q _ _ _ (by constructor <;> omega))))
  go_wp2
  go_ret
  exact ⟨ret_bool (by simp [cV]), .of _⟩
theorem cmp_79 (t a b : Int) (W : World) (ha : u64R a) (hb : u64R b) : Calls Tryd.prog 58 #[.int .u64 a, .int .u64 b] W fun e w' => e = .returned (.bool (cV t 79 a b)) ∧ Still W w' := by
  obtain ⟨a0, a1⟩ := ha
  obtain ⟨b0, b1⟩ := hb
  go_enter Tryd.func58, Tryd.ntmps58
  go_wp2
  go_ret
  exact ⟨ret_bool (by simp [cV]), .rfl⟩
theorem rec_106 (t a b : Int) (W : World) (ht : isT t) (ha : inR t a) (hb : inR t b) : Calls Tryd.prog 66 #[.int .u64 a, .int .u64 b] W fun e w' => e = .returned (.int .u64 (rV t 106 a b)) ∧ Still W w' := by
  rcases ht with rfl | rfl
  · obtain ⟨a0, a1⟩ := inR_32 ha
    obtain ⟨b0, b1⟩ := inR_32 hb
    go_enter Tryd.func66, Tryd.ntmps66
    go_wp2
    go_ret
    exact ⟨ret_int (by first | rfl | exact (Int.emod_eq_of_lt (by omega) (by omega)).symm), .rfl⟩
  · obtain ⟨a0, a1⟩ := inR_64 ha
    obtain ⟨b0, b1⟩ := inR_64 hb
    go_enter Tryd.func66, Tryd.ntmps66
    go_wp2
    go_ret
    exact ⟨ret_int (by first | rfl | exact (Int.emod_eq_of_lt (by omega) (by omega)).symm), .rfl⟩
theorem rec_107 (t a b : Int) (W : World) (ht : isT t) (ha : inR t a) (hb : inR t b) : Calls Tryd.prog 67 #[.int .u64 a, .int .u64 b] W fun e w' => e = .returned (.int .u64 (rV t 107 a b)) ∧ Still W w' := by
  rcases ht with rfl | rfl
  · obtain ⟨a0, a1⟩ := inR_32 ha
    obtain ⟨b0, b1⟩ := inR_32 hb
    go_enter Tryd.func67, Tryd.ntmps67
    go_wp2
    go_ret
    exact ⟨ret_int (by first | rfl | exact (Int.emod_eq_of_lt (by omega) (by omega)).symm), .rfl⟩
  · obtain ⟨a0, a1⟩ := inR_64 ha
    obtain ⟨b0, b1⟩ := inR_64 hb
    go_enter Tryd.func67, Tryd.ntmps67
    go_wp2
    go_ret
    exact ⟨ret_int (by first | rfl | exact (Int.emod_eq_of_lt (by omega) (by omega)).symm), .rfl⟩
theorem rec_108 (t a b : Int) (W : World) (ht : isT t) (ha : inR t a) (hb : inR t b) : Calls Tryd.prog 68 #[.int .u64 a, .int .u64 b] W fun e w' => e = .returned (.int .u64 (rV t 108 a b)) ∧ Still W w' := by
  rcases ht with rfl | rfl
  · obtain ⟨a0, a1⟩ := inR_32 ha
    obtain ⟨b0, b1⟩ := inR_32 hb
    go_enter Tryd.func68, Tryd.ntmps68
    go_wp2
    go_ret
    exact ⟨ret_int (by first | rfl | exact (Int.emod_eq_of_lt (by omega) (by omega)).symm), .rfl⟩
  · obtain ⟨a0, a1⟩ := inR_64 ha
    obtain ⟨b0, b1⟩ := inR_64 hb
    go_enter Tryd.func68, Tryd.ntmps68
    go_wp2
    go_ret
    exact ⟨ret_int (by first | rfl | exact (Int.emod_eq_of_lt (by omega) (by omega)).symm), .rfl⟩
theorem rec_110 (t a b : Int) (W : World) (ht : isT t) (ha : inR t a) (hb : inR t b) (hz : b ≠ 0) : Calls Tryd.prog 70 #[.int .u64 a, .int .u64 b] W fun e w' => e = .returned (.int .u64 (rV t 110 a b)) ∧ Still W w' := by
  rcases ht with rfl | rfl
  · obtain ⟨a0, a1⟩ := inR_32 ha
    obtain ⟨b0, b1⟩ := inR_32 hb
    clear ha hb
    have hbb : (b == 0) = false := by simpa using hz
    have hb2 : 1 ≤ b := by omega
    clear hz
    go_enter Tryd.func70, Tryd.ntmps70
    go_wp2
    go_ret
    exact ⟨ret_int (by first | rfl | exact (Int.emod_eq_of_lt (by omega) (by omega)).symm), .rfl⟩
  · obtain ⟨a0, a1⟩ := inR_64 ha
    obtain ⟨b0, b1⟩ := inR_64 hb
    clear ha hb
    have hbb : (b == 0) = false := by simpa using hz
    have hb2 : 1 ≤ b := by omega
    clear hz
    go_enter Tryd.func70, Tryd.ntmps70
    go_wp2
    go_ret
    exact ⟨ret_int (by first | rfl | exact (Int.emod_eq_of_lt (by omega) (by omega)).symm), .rfl⟩
theorem rec_112 (t a b : Int) (W : World) (ht : isT t) (ha : inR t a) (hb : inR t b) (hz : b ≠ 0) : Calls Tryd.prog 72 #[.int .u64 a, .int .u64 b] W fun e w' => e = .returned (.int .u64 (rV t 112 a b)) ∧ Still W w' := by
  rcases ht with rfl | rfl
  · obtain ⟨a0, a1⟩ := inR_32 ha
    obtain ⟨b0, b1⟩ := inR_32 hb
    clear ha hb
    have hbb : (b == 0) = false := by simpa using hz
    have hb2 : 1 ≤ b := by omega
    clear hz
    go_enter Tryd.func72, Tryd.ntmps72
    go_wp2
    go_ret
    exact ⟨ret_int (by first | rfl | exact (Int.emod_eq_of_lt (by omega) (by omega)).symm), .rfl⟩
  · obtain ⟨a0, a1⟩ := inR_64 ha
    obtain ⟨b0, b1⟩ := inR_64 hb
    clear ha hb
    have hbb : (b == 0) = false := by simpa using hz
    have hb2 : 1 ≤ b := by omega
    clear hz
    go_enter Tryd.func72, Tryd.ntmps72
    go_wp2
    go_ret
    exact ⟨ret_int (by first | rfl | exact (Int.emod_eq_of_lt (by omega) (by omega)).symm), .rfl⟩
theorem rec_113 (t a b : Int) (W : World) (ht : isT t) (ha : inR t a) (hb : inR t b) : Calls Tryd.prog 73 #[.int .u64 a, .int .u64 b] W fun e w' => e = .returned (.int .u64 (rV t 113 a b)) ∧ Still W w' := by
  rcases ht with rfl | rfl
  · obtain ⟨a0, a1⟩ := inR_32 ha
    obtain ⟨b0, b1⟩ := inR_32 hb
    go_enter Tryd.func73, Tryd.ntmps73
    go_wp2
    go_ret
    exact ⟨ret_int (by first | rfl | exact (Int.emod_eq_of_lt (by omega) (by omega)).symm), .rfl⟩
  · obtain ⟨a0, a1⟩ := inR_64 ha
    obtain ⟨b0, b1⟩ := inR_64 hb
    go_enter Tryd.func73, Tryd.ntmps73
    go_wp2
    go_ret
    exact ⟨ret_int (by first | rfl | exact (Int.emod_eq_of_lt (by omega) (by omega)).symm), .rfl⟩
theorem rec_114 (t a b : Int) (W : World) (ht : isT t) (ha : inR t a) (hb : inR t b) : Calls Tryd.prog 74 #[.int .u64 a, .int .u64 b] W fun e w' => e = .returned (.int .u64 (rV t 114 a b)) ∧ Still W w' := by
  rcases ht with rfl | rfl
  · obtain ⟨a0, a1⟩ := inR_32 ha
    obtain ⟨b0, b1⟩ := inR_32 hb
    go_enter Tryd.func74, Tryd.ntmps74
    go_wp2
    go_ret
    exact ⟨ret_int (by first | rfl | exact (Int.emod_eq_of_lt (by omega) (by omega)).symm), .rfl⟩
  · obtain ⟨a0, a1⟩ := inR_64 ha
    obtain ⟨b0, b1⟩ := inR_64 hb
    go_enter Tryd.func74, Tryd.ntmps74
    go_wp2
    go_ret
    exact ⟨ret_int (by first | rfl | exact (Int.emod_eq_of_lt (by omega) (by omega)).symm), .rfl⟩
theorem rec_115 (t a b : Int) (W : World) (ht : isT t) (ha : inR t a) (hb : inR t b) : Calls Tryd.prog 75 #[.int .u64 a, .int .u64 b] W fun e w' => e = .returned (.int .u64 (rV t 115 a b)) ∧ Still W w' := by
  rcases ht with rfl | rfl
  · obtain ⟨a0, a1⟩ := inR_32 ha
    obtain ⟨b0, b1⟩ := inR_32 hb
    go_enter Tryd.func75, Tryd.ntmps75
    go_wp2
    go_ret
    exact ⟨ret_int (by first | rfl | exact (Int.emod_eq_of_lt (by omega) (by omega)).symm), .rfl⟩
  · obtain ⟨a0, a1⟩ := inR_64 ha
    obtain ⟨b0, b1⟩ := inR_64 hb
    go_enter Tryd.func75, Tryd.ntmps75
    go_wp2
    go_ret
    exact ⟨ret_int (by first | rfl | exact (Int.emod_eq_of_lt (by omega) (by omega)).symm), .rfl⟩
theorem rec_116 (q : Addr) (t a b : Int) (W : World) (ht : isT t) (hq : W.cell? q = some (.int .u64 (wdT t))) (ha : inR t a) (hb : inR t b) : Calls Tryd.prog 76 #[.int .u64 a, .int .u64 b, .pointer (some q)] W fun e w' => e = .returned (.int .u64 (rV t 116 a b)) ∧ Still W w' := by
  rcases ht with rfl | rfl
  · obtain ⟨a0, a1⟩ := inR_32 ha
    obtain ⟨b0, b1⟩ := inR_32 hb
    rw [wd32] at hq
    go_enter Tryd.func76, Tryd.ntmps76
    go_wp2
    go_ret
    exact ⟨ret_int (by first | rfl | exact (Int.emod_eq_of_lt (by omega) (by omega)).symm), .rfl⟩
  · obtain ⟨a0, a1⟩ := inR_64 ha
    obtain ⟨b0, b1⟩ := inR_64 hb
    rw [wd64] at hq
    go_enter Tryd.func76, Tryd.ntmps76
    go_wp2
    go_ret
    exact ⟨ret_int (by first | rfl | exact (Int.emod_eq_of_lt (by omega) (by omega)).symm), .rfl⟩
theorem rec_117 (p : Addr) (q : Addr) (t a b : Int) (W : World) (ht : isT t) (hc : W.cell? p = some (.int .u8 t)) (hq : W.cell? q = some (.int .u64 (wdT t))) (ha : inR t a) (hb : inR t b) : Calls Tryd.prog 77 #[.int .u64 a, .int .u64 b, .pointer (some p), .pointer (some q)] W fun e w' => e = .returned (.int .u64 (rV t 117 a b)) ∧ Still W w' := by
  rcases ht with rfl | rfl
  · obtain ⟨a0, a1⟩ := inR_32 ha
    obtain ⟨b0, b1⟩ := inR_32 hb
    rw [wd32] at hq
    go_enter Tryd.func77, Tryd.ntmps77
    go_wp2_with fail
    go_quiet ((go_at_call 22; exact Calls.quiet_of_same (sgn_q _ _ _ (by constructor <;> omega))))
    go_wp2
    go_ret
    exact ⟨ret_int (by first | rfl | exact (Int.emod_eq_of_lt (by omega) (by omega)).symm), .of _⟩
  · obtain ⟨a0, a1⟩ := inR_64 ha
    obtain ⟨b0, b1⟩ := inR_64 hb
    rw [wd64] at hq
    go_enter Tryd.func77, Tryd.ntmps77
    go_wp2_with fail
    go_quiet ((go_at_call 22; exact Calls.quiet_of_same (sgn_q _ _ _ (by constructor <;> omega))))
    go_wp2
    go_ret
    exact ⟨ret_int (by first | rfl | exact (Int.emod_eq_of_lt (by omega) (by omega)).symm), .of _⟩
theorem rec_118 (q : Addr) (t a b : Int) (W : World) (ht : isT t) (hq : W.cell? q = some (.int .u64 (wdT t))) (ha : inR t a) (hb : inR t b) : Calls Tryd.prog 78 #[.int .u64 a, .int .u64 b, .pointer (some q)] W fun e w' => e = .returned (.int .u64 (rV t 118 a b)) ∧ Still W w' := by
  rcases ht with rfl | rfl
  · obtain ⟨a0, a1⟩ := inR_32 ha
    obtain ⟨b0, b1⟩ := inR_32 hb
    rw [wd32] at hq
    go_enter Tryd.func78, Tryd.ntmps78
    go_wp2
    go_ret
    exact ⟨ret_int (by first | rfl | exact (Int.emod_eq_of_lt (by omega) (by omega)).symm), .rfl⟩
  · obtain ⟨a0, a1⟩ := inR_64 ha
    obtain ⟨b0, b1⟩ := inR_64 hb
    rw [wd64] at hq
    go_enter Tryd.func78, Tryd.ntmps78
    go_wp2
    go_ret
    exact ⟨ret_int (by first | rfl | exact (Int.emod_eq_of_lt (by omega) (by omega)).symm), .rfl⟩
theorem rec_119 (q : Addr) (t a b : Int) (W : World) (ht : isT t) (hq : W.cell? q = some (.int .u64 (wdT t))) (ha : inR t a) (hb : inR t b) : Calls Tryd.prog 79 #[.int .u64 a, .int .u64 b, .pointer (some q)] W fun e w' => e = .returned (.int .u64 (rV t 119 a b)) ∧ Still W w' := by
  rcases ht with rfl | rfl
  · obtain ⟨a0, a1⟩ := inR_32 ha
    obtain ⟨b0, b1⟩ := inR_32 hb
    rw [wd32] at hq
    go_enter Tryd.func79, Tryd.ntmps79
    go_wp2_with fail
    go_quiet (fail)
    go_wp2
    go_ret
    exact ⟨ret_int (by first | rfl | exact (Int.emod_eq_of_lt (by omega) (by omega)).symm), .of _⟩
  · obtain ⟨a0, a1⟩ := inR_64 ha
    obtain ⟨b0, b1⟩ := inR_64 hb
    rw [wd64] at hq
    go_enter Tryd.func79, Tryd.ntmps79
    go_wp2_with fail
    go_quiet (fail)
    go_wp2
    go_ret
    exact ⟨ret_int (by first | rfl | exact (Int.emod_eq_of_lt (by omega) (by omega)).symm), .of _⟩
theorem rec_120 (q : Addr) (t a b : Int) (W : World) (ht : isT t) (hq : W.cell? q = some (.int .u64 (wdT t))) (ha : inR t a) (hb : inR t b) : Calls Tryd.prog 80 #[.int .u64 a, .int .u64 b, .pointer (some q)] W fun e w' => e = .returned (.int .u64 (rV t 120 a b)) ∧ Still W w' := by
  rcases ht with rfl | rfl
  · obtain ⟨a0, a1⟩ := inR_32 ha
    obtain ⟨b0, b1⟩ := inR_32 hb
    rw [wd32] at hq
    go_enter Tryd.func80, Tryd.ntmps80
    go_wp2_with fail
    go_quiet (fail)
    go_wp2
    go_ret
    exact ⟨ret_int (by first | rfl | exact (Int.emod_eq_of_lt (by omega) (by omega)).symm), .of _⟩
  · obtain ⟨a0, a1⟩ := inR_64 ha
    obtain ⟨b0, b1⟩ := inR_64 hb
    rw [wd64] at hq
    go_enter Tryd.func80, Tryd.ntmps80
    go_wp2_with fail
    go_quiet (fail)
    go_wp2
    go_ret
    exact ⟨ret_int (by first | rfl | exact (Int.emod_eq_of_lt (by omega) (by omega)).symm), .of _⟩
theorem rec_172 (p : Addr) (t a b : Int) (W : World) (ht : isT t) (hc : W.cell? p = some (.int .u8 t)) (ha : inR t a) (hb : inR t b) : Calls Tryd.prog 81 #[.int .u64 a, .int .u64 b, .pointer (some p)] W fun e w' => e = .returned (.int .u64 (rV t 172 a b)) ∧ Still W w' := by
  rcases ht with rfl | rfl
  · obtain ⟨a0, a1⟩ := inR_32 ha
    obtain ⟨b0, b1⟩ := inR_32 hb
    go_enter Tryd.func81, Tryd.ntmps81
    go_wp2_with (go_at_call 22; refine (sgn_any _ _ _ (by constructor <;> omega)).mono ?_; rintro e w' ⟨rfl, rfl⟩)
    go_ret
    exact ⟨ret_int (by first | rfl | exact (Int.emod_eq_of_lt (by omega) (by omega)).symm), .rfl⟩
  · obtain ⟨a0, a1⟩ := inR_64 ha
    obtain ⟨b0, b1⟩ := inR_64 hb
    go_enter Tryd.func81, Tryd.ntmps81
    go_wp2_with (go_at_call 22; refine (sgn_any _ _ _ (by constructor <;> omega)).mono ?_; rintro e w' ⟨rfl, rfl⟩)
    go_ret
    exact ⟨ret_int (by first | rfl | exact (Int.emod_eq_of_lt (by omega) (by omega)).symm), .rfl⟩
end Go.Proofs.YtoclfldmkipokaaDoor.Ints
