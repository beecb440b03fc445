/- LebBack, all its cases together: for any two numbers, any width and any bytes behind. -/
import Derived.Test.YtognfgiekffmhaaLebBackYY
import Derived.Test.YtognfgiekffmhaaLebBackYL
import Derived.Test.YtognfgiekffmhaaLebBackYG
import Derived.Test.YtognfgiekffmhaaLebBackNY
import Derived.Test.YtognfgiekffmhaaLebBackNL
import Derived.Test.YtognfgiekffmhaaLebBackNG
import Derived.Test.YtognfgiekffmhaaLebBackAll
namespace Go.Proofs.Ytognfgiekffmhaa.Leb
open Go.RowKit

set_option maxHeartbeats 400000 in
set_option maxRecDepth 100000 in
theorem back_big (A : Option Addr) (len c : Nat) (v s n : Int) (w : World) (hl : 100 < len) (hm : len ≤ 9223372036854775807) :
    Calls Try.prog 5 #[.int .u64 v, .int .i64 s, .int .i64 n, .slice A len c] w fun e w' => e = .returned (.bool true) ∧ Below w.heap.size w w' := by
  go_enter Try.func5, Try.ntmps5
  go_wp2_with (go_at_call 10; refine (awake_any _).mono ?_; rintro e w1 ⟨rfl, hb1⟩)
  go_ret
  exact ⟨rfl, hb1⟩

theorem back_any (v s n : Int) (a : Option Addr) (len cap : Nat) (zs : List Int) (w : World) (hv : (Lit.int .u64 v).wf = true) (hs : (Lit.int .i64 s).wf = true) (hr : Came .u8 w a len cap zs) :
    Calls Try.prog 5 #[.int .u64 v, .int .i64 s, .int .i64 n, .slice a len cap] w fun e w' => e = .returned (.bool true) ∧ Below w.heap.size w w' := by
  have b1 := bounds_u64 hv
  have b2 := bounds_i64 hs
  obtain ⟨hb, hl, hby, hm⟩ := hr.byt
  by_cases h : len ≤ 100
  · obtain ⟨u, rfl⟩ := Int.eq_ofNat_of_zero_le b1.1
    obtain ⟨K, hK⟩ := Int.eq_ofNat_of_zero_le (show 0 ≤ 1 + n % 64 by omega)
    have hK := hK.symm
    have key : Calls Try.prog 5 #[.int .u64 (u : Int), .int .i64 s, .int .i64 n, .slice a (zs.take len).length cap] w fun e w' => e = .returned (.bool true) ∧ Below w.heap.size w w' := by
      by_cases h64 : K = 64
      · exact back_All a cap u K s n _ w hb (by omega) hby (by omega) b2.1 b2.2 hK h64
      · have hlt : K < 64 := by omega
        by_cases hf : u < 2 ^ K
        · by_cases hg1 : s < -2 ^ (K - 1)
          · exact back_YL a cap u K s n _ w hb (by omega) hby (by omega) b2.1 b2.2 hK hlt hf hg1
          · by_cases hg2 : 2 ^ (K - 1) ≤ s
            · exact back_YG a cap u K s n _ w hb (by omega) hby (by omega) b2.1 b2.2 hK hlt hf hg2
            · exact back_YY a cap u K s n _ w hb (by omega) hby (by omega) b2.1 b2.2 hK hlt hf (by omega)
        · by_cases hg1 : s < -2 ^ (K - 1)
          · exact back_NL a cap u K s n _ w hb (by omega) hby (by omega) b2.1 b2.2 hK hlt hf hg1
          · by_cases hg2 : 2 ^ (K - 1) ≤ s
            · exact back_NG a cap u K s n _ w hb (by omega) hby (by omega) b2.1 b2.2 hK hlt hf hg2
            · exact back_NY a cap u K s n _ w hb (by omega) hby (by omega) b2.1 b2.2 hK hlt hf (by omega)
    rw [hl] at key
    exact key
  · exact back_big a len cap v s n w (by omega) hm
end Go.Proofs.Ytognfgiekffmhaa.Leb
