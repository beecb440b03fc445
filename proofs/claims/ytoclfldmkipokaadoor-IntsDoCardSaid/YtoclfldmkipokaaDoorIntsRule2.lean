/- The closures of layer 2's operators that divide, that count, and the one that hands a number on. -/
import Derived.Test.YtoclfldmkipokaaDoorIntsBits
namespace Go.Proofs.YtoclfldmkipokaaDoor.Ints
open Go.RowKit
set_option maxRecDepth 100000
set_option maxHeartbeats 1000000

theorem uw_w64 (q : Int) : IntKind.u64.wrap (wrap64 q) = q % 18446744073709551616 := by rw [IntKind.wrap_u64]; unfold wrap64; omega
theorem rec_109 (p : Addr) (t a b : Int) (W : World) (hc : W.cell? p = some (.int .u8 t)) (ha : u64R a) (hb : u64R b) (hz : sgT t b ≠ 0) : Calls Tryd.prog 69 #[.int .u64 a, .int .u64 b, .pointer (some p)] W fun e w' => e = .returned (.int .u64 (rV t 109 a b)) ∧ Still W w' := by
  obtain ⟨a0, a1⟩ := ha
  obtain ⟨b0, b1⟩ := hb
  have y0 : ¬ sgT t b = 0 := hz
  clear hz
  go_enter Tryd.func69, Tryd.ntmps69
  go_wp2_with fail
  go_quiet ((go_at_call 22; exact Calls.quiet_of_same (sgn_q _ _ _ (by constructor <;> omega))))
  go_wp2
  go_ret
  exact ⟨ret_int (by first | rfl | exact uw_w64 _), .of _⟩
theorem rec_111 (p : Addr) (t a b : Int) (W : World) (hc : W.cell? p = some (.int .u8 t)) (ha : u64R a) (hb : u64R b) (hz : sgT t b ≠ 0) : Calls Tryd.prog 71 #[.int .u64 a, .int .u64 b, .pointer (some p)] W fun e w' => e = .returned (.int .u64 (rV t 111 a b)) ∧ Still W w' := by
  obtain ⟨a0, a1⟩ := ha
  obtain ⟨b0, b1⟩ := hb
  have y0 : ¬ sgT t b = 0 := hz
  clear hz
  go_enter Tryd.func71, Tryd.ntmps71
  go_wp2_with fail
  go_quiet ((go_at_call 22; exact Calls.quiet_of_same (sgn_q _ _ _ (by constructor <;> omega))))
  go_wp2
  go_ret
  exact ⟨ret_int (by first | rfl | exact uw_w64 _), .of _⟩
theorem rec_last (t l a b : Int) (W : World) (hl : l = 167 ∨ l = 173) : Calls Tryd.prog 82 #[.int .u64 a, .int .u64 b] W fun e w' => e = .returned (.int .u64 (rV t l a b)) ∧ Still W w' := by
  rcases hl with rfl | rfl <;>
  · go_enter Tryd.func82, Tryd.ntmps82
    go_wp2
    go_ret
    exact ⟨rfl, .rfl⟩
end Go.Proofs.YtoclfldmkipokaaDoor.Ints
