/- The program's tables, and what it reads of them: kinds, accesses. -/
import Derived.Test.YtdmidagcdhhlhaaDoorInsAccess
import Derived.BigQuiet
namespace Go.Proofs.YtdmidagcdhhlhaaDoor.Ins
open Go.RowKit Ints Typ
set_option maxRecDepth 100000
set_option maxHeartbeats 1000000

/-- The table of kinds stands in its variable. -/
def KTab (w : World) : Prop := 0 < w.heap.size ∧ ∀ r : Nat, r < 174 → w.cell? ⟨0, r, none⟩ = some (.int .u8 (kd (r : Int)))
theorem KTab.keep {w w' : World} (h : KTab w) (hb : Below w.heap.size w w') : KTab w' :=
  ⟨Nat.lt_of_lt_of_le h.1 hb.size, fun r hr => by rw [hb.cell (p := ⟨0, r, none⟩) h.1]; exact h.2 r hr⟩
theorem kind_low (op : Int) (w : World) (h : op < 0) : Calls Tryd.prog 50 #[.int .i64 op] w fun e w' => e = .returned (.int .i64 0) ∧ w = w' := by
  have t1 : decide (op < 0) = true := by simp; omega
  clear h
  go_enter Tryd.func50, Tryd.ntmps50
  go_wp2_with fail
  go_ret
  exact ⟨rfl, rfl⟩
theorem kind_high (op : Int) (w : World) (h : 173 < op) : Calls Tryd.prog 50 #[.int .i64 op] w fun e w' => e = .returned (.int .i64 0) ∧ w = w' := by
  have t1 : decide (op < 0) = false := by simp; omega
  have t2 : decide (174 ≤ op) = true := by simp; omega
  clear h
  go_enter Tryd.func50, Tryd.ntmps50
  go_wp2_with fail
  go_ret
  exact ⟨rfl, rfl⟩
theorem kind_in (r : Nat) (k : Int) (w : World) (h : r < 174) (k0 : 0 ≤ k) (k1 : k ≤ 9) (hc : w.cell? ⟨0, r, none⟩ = some (.int .u8 k)) : Calls Tryd.prog 50 #[.int .i64 (r : Int)] w fun e w' => e = .returned (.int .i64 k) ∧ w = w' := by
  have t1 : decide ((r : Int) < 0) = false := by simp
  have t2 : decide (174 ≤ (r : Int)) = false := by simp; omega
  have t3 : IntKind.i64.wrap k = k := IntWalk.i64_in _ (by omega)
  go_enter Tryd.func50, Tryd.ntmps50
  go_wp2_with fail
  go_ret
  exact ⟨rfl, rfl⟩
/-- A code's kind, by the program. -/
theorem kind_any (op : Int) (w : World) (hT : KTab w) : Calls Tryd.prog 50 #[.int .i64 op] w fun e w' => e = .returned (.int .i64 (kd op)) ∧ w = w' := by
  by_cases h0 : op < 0
  · rw [kd_low h0]; exact kind_low op w h0
  · by_cases h1 : 173 < op
    · rw [kd_high h1]; exact kind_high op w h1
    · obtain ⟨r, rfl⟩ := Int.eq_ofNat_of_zero_le (show 0 ≤ op by omega)
      exact kind_in r _ w (by omega) (kd_range _).1 (kd_range _).2 (hT.2 r (by omega))
theorem kind_told (op : Int) (w : World) (hT : KTab w) : Calls Tryd.prog 50 #[.int .i64 op] w (KdTold op w) := (kind_any op w hT).mono fun _e _w' ⟨h1, h2⟩ => ⟨h1, h2 ▸ Below.refl _ _⟩
end Go.Proofs.YtdmidagcdhhlhaaDoor.Ins
