/- The library's counting of ones, walked. -/
import Derived.Test.YtoclfldmkipokaaDoorIntsPopM
namespace Go.Proofs.YtoclfldmkipokaaDoor.Ints
open Go.RowKit
set_option maxRecDepth 100000

theorem uadd (a b : Nat) (h : a + b < 18446744073709551616) : IntKind.u64.wrap ((a : Int) + (b : Int)) = ((a + b : Nat) : Int) := by rw [IntKind.wrap_u64]; omega
def iA (x : Int) : Int := IntKind.u64.wrap (bits .and .u64 (x / 2) 6148914691236517205 + bits .and .u64 x 6148914691236517205)
def iB (x : Int) : Int := IntKind.u64.wrap (bits .and .u64 (x / 4) 3689348814741910323 + bits .and .u64 x 3689348814741910323)
def iC (x : Int) : Int := bits .and .u64 (IntKind.u64.wrap (x / 16 + x)) 1085102592571150095
def iD (x : Int) : Int := IntKind.u64.wrap (x + x / 256)
def iE (x : Int) : Int := IntKind.u64.wrap (x + x / 65536)
def iF (x : Int) : Int := IntKind.u64.wrap (x + x / 4294967296)
theorem iA_nat (n : Nat) (h : n < 18446744073709551616) (l : (n / 2 &&& 6148914691236517205) + (n &&& 6148914691236517205) < 18446744073709551616) : iA n = (((n / 2 &&& 6148914691236517205) + (n &&& 6148914691236517205) : Nat) : Int) := by
  unfold iA
  rw [show ((n : Int) / 2) = ((n / 2 : Nat) : Int) from by omega]
  have h1 := bits_and_u64_nat (n / 2) 6148914691236517205 (by omega) (by omega)
  have h2 := bits_and_u64_nat n 6148914691236517205 h (by omega)
  exact (congrArg _ (congr (congrArg _ h1) h2)).trans (uadd _ _ l)
theorem iB_nat (n : Nat) (h : n < 18446744073709551616) (l : (n / 4 &&& 3689348814741910323) + (n &&& 3689348814741910323) < 18446744073709551616) : iB n = (((n / 4 &&& 3689348814741910323) + (n &&& 3689348814741910323) : Nat) : Int) := by
  unfold iB
  rw [show ((n : Int) / 4) = ((n / 4 : Nat) : Int) from by omega]
  have h1 := bits_and_u64_nat (n / 4) 3689348814741910323 (by omega) (by omega)
  have h2 := bits_and_u64_nat n 3689348814741910323 h (by omega)
  exact (congrArg _ (congr (congrArg _ h1) h2)).trans (uadd _ _ l)
theorem iC_nat (n : Nat) (h : n < 9223372036854775808) : iC n = (((n / 16 + n) &&& 1085102592571150095 : Nat) : Int) := by
  unfold iC
  rw [show ((n : Int) / 16) = ((n / 16 : Nat) : Int) from by omega, uadd _ _ (by omega)]
  exact bits_and_u64_nat (n / 16 + n) 1085102592571150095 (by omega) (by omega)
theorem iD_nat (n : Nat) (l : n + n / 256 < 18446744073709551616) : iD n = ((n + n / 256 : Nat) : Int) := by
  unfold iD
  rw [show ((n : Int) / 256) = ((n / 256 : Nat) : Int) from by omega, uadd _ _ l]
theorem iE_nat (n : Nat) (l : n + n / 65536 < 18446744073709551616) : iE n = ((n + n / 65536 : Nat) : Int) := by
  unfold iE
  rw [show ((n : Int) / 65536) = ((n / 65536 : Nat) : Int) from by omega, uadd _ _ l]
theorem iF_nat (n : Nat) (l : n + n / 4294967296 < 18446744073709551616) : iF n = ((n + n / 4294967296 : Nat) : Int) := by
  unfold iF
  rw [show ((n : Int) / 4294967296) = ((n / 4294967296 : Nat) : Int) from by omega, uadd _ _ l]
theorem pop_math (n a b c d e f : Nat) (h1 : n < 18446744073709551616) (ha : a = (n / 2 &&& 6148914691236517205) + (n &&& 6148914691236517205)) (hb : b = (a / 4 &&& 3689348814741910323) + (a &&& 3689348814741910323))
    (hc : c = (b / 16 + b) &&& 1085102592571150095) (hd : d = c + c / 256) (he : e = d + d / 65536) (hf : f = e + e / 4294967296) :
    bits .and .i64 (wrap64 (iF (iE (iD (iC (iB (iA n))))))) 127 = (popR n 64 : Int) := by
  obtain ⟨hp, la, lb, lc, ld, le, lf⟩ := ones_steps n a b c d e f ha hb hc hd he hf
  rw [iA_nat n h1 (by rw [← ha]; exact la), ← ha, iB_nat a la (by rw [← hb]; exact Nat.lt_trans lb (by omega)), ← hb, iC_nat b lb, ← hc, iD_nat c (by rw [← hd]; exact ld), ← hd, iE_nat d (by rw [← he]; exact le), ← he, iF_nat e (by rw [← hf]; exact lf), ← hf, i64_and127, ← hp]
  clear ha hb hc hd he hf hp la lb lc ld le
  unfold wrap64
  omega
set_option maxHeartbeats 1000000 in
theorem pop_walk (n : Nat) (w : World) (h1 : n < 18446744073709551616) : Calls Tryd.prog 65 #[.int .u64 n] w fun e w' => e = .returned (.int .i64 (popR n 64)) ∧ w' = w := by
  have H := Lib.hid (pop_math n _ _ _ _ _ _ h1 rfl rfl rfl rfl rfl rfl)
  clear h1
  unfold iF iE iD iC iB iA at H
  go_enter Tryd.func65, Tryd.ntmps65
  go_wp2
  go_ret
  exact ⟨ret_int H.out, rfl⟩
theorem rec_105 (t a b : Int) (W : World) (ha : u64R a) : Calls Tryd.prog 64 #[.int .u64 a, .int .u64 b] W fun e w' => e = .returned (.int .u64 (rV t 105 a b)) ∧ Still W w' := by
  obtain ⟨a0, a1⟩ := ha
  obtain ⟨n, rfl⟩ := Int.eq_ofNat_of_zero_le a0
  have hn : n < 18446744073709551616 := by omega
  have hp := popR_le n 64
  have HP := Lib.hid (fun W => pop_walk n W hn)
  have hv : IntKind.u64.wrap (popR n 64 : Int) = rV t 105 (n : Int) b := by rw [IntKind.wrap_u64]; show _ = (popR n 64 : Int); omega
  have HV := Lib.hid hv
  clear hv
  go_enter Tryd.func64, Tryd.ntmps64
  go_wp2_with (go_at_call 65; refine (HP.out _).mono ?_; rintro e w' ⟨rfl, rfl⟩)
  go_ret
  exact ⟨ret_int (by rfl), .rfl⟩
end Go.Proofs.YtoclfldmkipokaaDoor.Ints
