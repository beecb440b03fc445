/- What a code reads or writes, by the document. -/
import Derived.Test.YtmjimijolfjhmaaDoorInsKind
namespace Go.Proofs.YtmjimijolfjhmaaDoor.Ins
open Go.RowKit Ints Typ
set_option maxRecDepth 100000
set_option maxHeartbeats 1000000

/-- The value's type, how many bytes, with its sign?, a store? -/
def ax (op : Int) : Int × Int × Bool × Bool :=
  if op = 40 then (127, 4, false, false) else if op = 41 then (126, 8, false, false) else if op = 44 then (127, 1, true, false) else if op = 45 then (127, 1, false, false)
  else if op = 46 then (127, 2, true, false) else if op = 47 then (127, 2, false, false) else if op = 48 then (126, 1, true, false) else if op = 49 then (126, 1, false, false)
  else if op = 50 then (126, 2, true, false) else if op = 51 then (126, 2, false, false) else if op = 52 then (126, 4, true, false) else if op = 53 then (126, 4, false, false)
  else if op = 54 then (127, 4, false, true) else if op = 55 then (126, 8, false, true) else if op = 58 then (127, 1, false, true) else if op = 59 then (127, 2, false, true)
  else if op = 60 then (126, 1, false, true) else if op = 61 then (126, 2, false, true) else if op = 62 then (126, 4, false, true) else (0, 0, false, false)
theorem ax_none {op : Int} (h : kd op ≠ 6) : ax op = (0, 0, false, false) := by
  have h2 : ¬ (op = 40 ∨ op = 41 ∨ (44 ≤ op ∧ op ≤ 55) ∨ (58 ≤ op ∧ op ≤ 62)) := by
    intro g
    apply h
    unfold kd
    rw [if_neg (by omega), if_neg (by omega), if_neg (by omega), if_neg (by omega), if_pos g]
  unfold ax
  iterate 19 (rw [if_neg (by omega)])
def AxTold (x : Int × Int × Bool × Bool) (w : World) (e : Ending) (w' : World) : Prop := e = .returned (.tuple #[.int .u8 x.1, .int .i64 x.2.1, .bool x.2.2.1, .bool x.2.2.2]) ∧ w = w'
theorem raccess_any (op : Int) (w : World) : Calls Tryd.prog 16 #[.int .i64 op] w (AxTold (ax op) w) := by
  by_cases h : op = 40 ∨ op = 41 ∨ (44 ≤ op ∧ op ≤ 55) ∨ (58 ≤ op ∧ op ≤ 62)
  · have e : op = 40 ∨ op = 41 ∨ op = 44 ∨ op = 45 ∨ op = 46 ∨ op = 47 ∨ op = 48 ∨ op = 49 ∨ op = 50 ∨ op = 51 ∨ op = 52 ∨ op = 53 ∨ op = 54 ∨ op = 55 ∨ op = 58 ∨ op = 59 ∨ op = 60 ∨ op = 61 ∨ op = 62 := by omega
    clear h
    rcases e with rfl | rfl | rfl | rfl | rfl | rfl | rfl | rfl | rfl | rfl | rfl | rfl | rfl | rfl | rfl | rfl | rfl | rfl | rfl
    all_goals
      go_enter Tryd.func16, Tryd.ntmps16
      go_wp2
      refine bodyPost_ret (by simp [results, Tryd.results16, go_sem, ax]) rfl ⟨rfl, rfl⟩
  · have hx : ax op = (0, 0, false, false) := by
      unfold ax
      iterate 19 (rw [if_neg (by omega)])
    rw [hx]
    clear hx
    have q40 : (op == 40) = false := by simp; omega
    have q41 : (op == 41) = false := by simp; omega
    have q44 : (op == 44) = false := by simp; omega
    have q45 : (op == 45) = false := by simp; omega
    have q46 : (op == 46) = false := by simp; omega
    have q47 : (op == 47) = false := by simp; omega
    have q48 : (op == 48) = false := by simp; omega
    have q49 : (op == 49) = false := by simp; omega
    have q50 : (op == 50) = false := by simp; omega
    have q51 : (op == 51) = false := by simp; omega
    have q52 : (op == 52) = false := by simp; omega
    have q53 : (op == 53) = false := by simp; omega
    have q54 : (op == 54) = false := by simp; omega
    have q55 : (op == 55) = false := by simp; omega
    have q58 : (op == 58) = false := by simp; omega
    have q59 : (op == 59) = false := by simp; omega
    have q60 : (op == 60) = false := by simp; omega
    have q61 : (op == 61) = false := by simp; omega
    have q62 : (op == 62) = false := by simp; omega
    clear h
    go_enter Tryd.func16, Tryd.ntmps16
    go_wp2
    refine bodyPost_ret (v := .tuple #[.int .u8 0, .int .i64 0, .bool false, .bool false]) (by simp [results, Tryd.results16, go_sem]) rfl ⟨rfl, rfl⟩
end Go.Proofs.YtmjimijolfjhmaaDoor.Ins
