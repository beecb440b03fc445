/- The program's tables, and what it reads of them: kinds, accesses. -/
import Derived.Test.YtmjimijolfjhmaaDoorInsAccess
import Derived.BigQuiet
namespace Go.Proofs.YtmjimijolfjhmaaDoor.Ins
open Go.RowKit Ints Typ
set_option maxRecDepth 100000
set_option maxHeartbeats 1000000

/-- The table of kinds stands in its variable. -/
def KTab (w : World) : Prop := 1 < w.heap.size ∧ ∀ r : Nat, r < 174 → w.cell? ⟨1, r, none⟩ = some (.int .u8 (kd (r : Int)))
theorem KTab.keep {w w' : World} (h : KTab w) (hb : Below w.heap.size w w') : KTab w' :=
  ⟨Nat.lt_of_lt_of_le h.1 hb.size, fun r hr => by rw [hb.cell (p := ⟨1, r, none⟩) h.1]; exact h.2 r hr⟩
theorem kind_low (op : Int) (w : World) (h : op < 0) : Calls Tryd.prog 21 #[.int .i64 op] w fun e w' => e = .returned (.int .i64 0) ∧ w = w' := by
  have t1 : decide (op < 0) = true := by simp; omega
  clear h
  go_enter Tryd.func21, Tryd.ntmps21
  go_wp2_with fail
  go_ret
  exact ⟨rfl, rfl⟩
theorem kind_high (op : Int) (w : World) (h : 173 < op) : Calls Tryd.prog 21 #[.int .i64 op] w fun e w' => e = .returned (.int .i64 0) ∧ w = w' := by
  have t1 : decide (op < 0) = false := by simp; omega
  have t2 : decide (174 ≤ op) = true := by simp; omega
  clear h
  go_enter Tryd.func21, Tryd.ntmps21
  go_wp2_with fail
  go_ret
  exact ⟨rfl, rfl⟩
theorem kind_in (r : Nat) (k : Int) (w : World) (h : r < 174) (k0 : 0 ≤ k) (k1 : k ≤ 9) (hc : w.cell? ⟨1, r, none⟩ = some (.int .u8 k)) : Calls Tryd.prog 21 #[.int .i64 (r : Int)] w fun e w' => e = .returned (.int .i64 k) ∧ w = w' := by
  have t1 : decide ((r : Int) < 0) = false := by simp
  have t2 : decide (174 ≤ (r : Int)) = false := by simp; omega
  have t3 : IntKind.i64.wrap k = k := IntWalk.i64_in _ (by omega)
  go_enter Tryd.func21, Tryd.ntmps21
  go_wp2_with fail
  go_ret
  exact ⟨rfl, rfl⟩
/-- A code's kind, by the program. -/
theorem kind_any (op : Int) (w : World) (hT : KTab w) : Calls Tryd.prog 21 #[.int .i64 op] w fun e w' => e = .returned (.int .i64 (kd op)) ∧ w = w' := by
  by_cases h0 : op < 0
  · rw [kd_low h0]; exact kind_low op w h0
  · by_cases h1 : 173 < op
    · rw [kd_high h1]; exact kind_high op w h1
    · obtain ⟨r, rfl⟩ := Int.eq_ofNat_of_zero_le (show 0 ≤ op by omega)
      exact kind_in r _ w (by omega) (kd_range _).1 (kd_range _).2 (hT.2 r (by omega))
theorem kind_told (op : Int) (w : World) (hT : KTab w) : Calls Tryd.prog 21 #[.int .i64 op] w (KdTold op w) := (kind_any op w hT).mono fun _e _w' ⟨h1, h2⟩ => ⟨h1, h2 ▸ Below.refl _ _⟩
/-- The table of accesses stands in its variable. -/
def ATab (w : World) : Prop := 0 < w.heap.size ∧ ∀ r : Nat, r < 23 →
  w.cell? ⟨0, r * 4, none⟩ = some (.int .u8 (ax ((r : Int) + 40)).1) ∧ w.cell? ⟨0, r * 4 + 1, none⟩ = some (.int .i64 (ax ((r : Int) + 40)).2.1) ∧
  w.cell? ⟨0, r * 4 + 2, none⟩ = some (.bool (ax ((r : Int) + 40)).2.2.1) ∧ w.cell? ⟨0, r * 4 + 3, none⟩ = some (.bool (ax ((r : Int) + 40)).2.2.2)
theorem ATab.keep {w w' : World} (h : ATab w) (hb : Below w.heap.size w w') : ATab w' :=
  ⟨Nat.lt_of_lt_of_le h.1 hb.size, fun r hr => by
    have key : ∀ i, w'.cell? ⟨0, i, none⟩ = w.cell? ⟨0, i, none⟩ := fun i => hb.cell (p := ⟨0, i, none⟩) h.1
    rw [key, key, key, key]; exact h.2 r hr⟩
theorem access_low (op : Int) (w : World) (h : op < 40) : Calls Tryd.prog 15 #[.int .i64 op] w fun e w' => e = .returned (.tuple #[.int .u8 0, .int .i64 0, .bool false, .bool false]) ∧ Below w.heap.size w w' := by
  have t1 : decide (op < 40) = true := by simp; omega
  clear h
  go_enter Tryd.func15, Tryd.ntmps15
  go_wp2_with fail
  refine bodyPost_ret (v := .tuple #[.int .u8 0, .int .i64 0, .bool false, .bool false]) (by simp [results, Tryd.results15, go_sem]) rfl ⟨rfl, Below.refl _ _⟩
theorem access_high (op : Int) (w : World) (h : 62 < op) : Calls Tryd.prog 15 #[.int .i64 op] w fun e w' => e = .returned (.tuple #[.int .u8 0, .int .i64 0, .bool false, .bool false]) ∧ Below w.heap.size w w' := by
  have t1 : decide (op < 40) = false := by simp; omega
  have t2 : decide (63 ≤ op) = true := by simp; omega
  clear h
  go_enter Tryd.func15, Tryd.ntmps15
  go_wp2_with fail
  refine bodyPost_ret (v := .tuple #[.int .u8 0, .int .i64 0, .bool false, .bool false]) (by simp [results, Tryd.results15, go_sem]) rfl ⟨rfl, Below.refl _ _⟩
theorem access_in (r : Nat) (op x y : Int) (b1 b2 : Bool) (w : World) (h : r < 23) (ho : op = (r : Int) + 40) (c0 : w.cell? ⟨0, r * 4, none⟩ = some (.int .u8 x)) (c1 : w.cell? ⟨0, r * 4 + 1, none⟩ = some (.int .i64 y))
    (c2 : w.cell? ⟨0, r * 4 + 2, none⟩ = some (.bool b1)) (c3 : w.cell? ⟨0, r * 4 + 3, none⟩ = some (.bool b2)) :
    Calls Tryd.prog 15 #[.int .i64 op] w fun e w' => e = .returned (.tuple #[.int .u8 x, .int .i64 y, .bool b1, .bool b2]) ∧ Below w.heap.size w w' := by
  have t1 : decide (op < 40) = false := by simp; omega
  have t2 : decide (63 ≤ op) = false := by simp; omega
  have t3 : IntKind.i64.wrap (op - 40) = (r : Int) := by rw [IntKind.wrap_i64]; omega
  clear ho
  go_enter Tryd.func15, Tryd.ntmps15
  go_wp2_with fail
  go_quiet (fail)
  go_wp2_with fail
  refine bodyPost_ret (v := .tuple #[.int .u8 x, .int .i64 y, .bool b1, .bool b2]) (by simp [results, Tryd.results15, go_sem]) rfl ⟨rfl, ?_⟩
  have hA := (Below.refl w.heap.size w).alloc (Nat.le_refl _) (.cells #[.int .u8 x, .int .i64 y, .bool b1, .bool b2] 58)
  exact ⟨hA.os, hA.tape, hA.output, hA.size, hA.block⟩
/-- What a code reads or writes, by the program. -/
theorem access_any (op : Int) (w : World) (hT : ATab w) : Calls Tryd.prog 15 #[.int .i64 op] w fun e w' => e = .returned (.tuple #[.int .u8 (ax op).1, .int .i64 (ax op).2.1, .bool (ax op).2.2.1, .bool (ax op).2.2.2]) ∧ Below w.heap.size w w' := by
  by_cases h0 : op < 40
  · have hx : ax op = (0, 0, false, false) := ax_none (by unfold kd; repeat' (first | (split; omega) | omega))
    rw [hx]; exact access_low op w h0
  · by_cases h1 : 62 < op
    · have hx : ax op = (0, 0, false, false) := ax_none (by unfold kd; repeat' (first | (split; omega) | omega))
      rw [hx]; exact access_high op w h1
    · obtain ⟨r, hr⟩ := Int.eq_ofNat_of_zero_le (show 0 ≤ op - 40 by omega)
      have e : op = (r : Int) + 40 := by omega
      subst e
      obtain ⟨c0, c1, c2, c3⟩ := hT.2 r (by omega)
      exact access_in r _ _ _ _ _ w (by omega) rfl c0 c1 c2 c3
end Go.Proofs.YtmjimijolfjhmaaDoor.Ins
