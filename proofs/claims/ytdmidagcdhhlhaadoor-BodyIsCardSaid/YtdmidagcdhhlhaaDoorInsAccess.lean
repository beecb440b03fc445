/- What a code reads or writes, by the document. -/
import Derived.Test.YtdmidagcdhhlhaaDoorInsKind
namespace Go.Proofs.YtdmidagcdhhlhaaDoor.Ins
open Go.RowKit Ints Typ
set_option maxRecDepth 100000
set_option maxHeartbeats 1000000

/-- The value's type, how many bytes, with its sign?, a store? -/
def ax (op : Int) : Int × Int × Bool × Bool :=
  if op = 40 then (127, 4, false, false) else if op = 41 then (126, 8, false, false) else if op = 44 then (127, 1, true, false) else if op = 45 then (127, 1, false, false)
  else if op = 46 then (127, 2, true, false) else if op = 47 then (127, 2, false, false) else if op = 48 then (126, 1, true, false) else if op = 49 then (126, 1, false, false)
  else if op = 50 then (126, 2, true, false) else if op = 51 then (126, 2, false, false) else if op = 52 then (126, 4, true, false) else if op = 53 then (126, 4, false, false)
  else if op = 54 then (127, 4, false, true) else if op = 55 then (126, 8, false, true) else if op = 58 then (127, 1, false, true) else if op = 59 then (127, 2, false, true)
  else if op = 60 then (126, 1, false, true) else if op = 61 then (126, 2, false, true) else if op = 62 then (126, 4, false, true) else (0, 0, false, false)
theorem ax_none {op : Int} (h : kd op ≠ 6) : ax op = (0, 0, false, false) := by
  have h2 : ¬ (op = 40 ∨ op = 41 ∨ (44 ≤ op ∧ op ≤ 55) ∨ (58 ≤ op ∧ op ≤ 62)) := by
    intro g
    apply h
    unfold kd
    rw [if_neg (by omega), if_neg (by omega), if_neg (by omega), if_neg (by omega), if_pos g]
  unfold ax
  iterate 19 (rw [if_neg (by omega)])
def AxTold (x : Int × Int × Bool × Bool) (w : World) (e : Ending) (w' : World) : Prop := e = .returned (.tuple #[.int .u8 x.1, .int .i64 x.2.1, .bool x.2.2.1, .bool x.2.2.2]) ∧ w = w'
end Go.Proofs.YtdmidagcdhhlhaaDoor.Ins
