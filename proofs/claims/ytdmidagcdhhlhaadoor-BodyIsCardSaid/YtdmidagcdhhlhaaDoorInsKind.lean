/- Which kind a code is of, by the document. -/
import Derived.Test.YtdmidagcdhhlhaaDoorIntsAll
import Derived.Test.YtdmidagcdhhlhaaDoorLebTwo
namespace Go.Proofs.YtdmidagcdhhlhaaDoor.Ins
open Go.RowKit Ints Typ
set_option maxRecDepth 100000
set_option maxHeartbeats 1000000

/-- A code's kind. -/
def kd (op : Int) : Int :=
  if 2 ≤ op ∧ op ≤ 4 then 2 else if op = 12 ∨ op = 13 ∨ op = 16 ∨ (32 ≤ op ∧ op ≤ 36) then 3 else if op = 14 then 4 else if op = 17 then 5
  else if op = 40 ∨ op = 41 ∨ (44 ≤ op ∧ op ≤ 55) ∨ (58 ≤ op ∧ op ≤ 62) then 6 else if op = 63 ∨ op = 64 then 7 else if op = 65 then 8 else if op = 66 then 9
  else if op = 0 ∨ op = 1 ∨ op = 5 ∨ op = 11 ∨ op = 15 ∨ op = 26 ∨ op = 27 then 1 else if (69 ≤ op ∧ op ≤ 90) ∨ (103 ≤ op ∧ op ≤ 138) ∨ op = 167 ∨ op = 172 ∨ op = 173 then 1 else 0
theorem kd_range (op : Int) : 0 ≤ kd op ∧ kd op ≤ 9 := by
  unfold kd
  repeat' (first | (split; omega) | omega)
theorem kd_low {op : Int} (h : op < 0) : kd op = 0 := by unfold kd; iterate 10 (rw [if_neg (by omega)])
theorem kd_high {op : Int} (h : 173 < op) : kd op = 0 := by unfold kd; iterate 10 (rw [if_neg (by omega)])
theorem kd_code {op : Int} (h : kd op ≠ 0) : 0 ≤ op ∧ op ≤ 173 := by
  refine ⟨?_, ?_⟩
  · by_cases h0 : op < 0
    · exact absurd (kd_low h0) h
    · omega
  · by_cases h0 : 173 < op
    · exact absurd (kd_high h0) h
    · omega
def KdTold (op : Int) (w : World) (e : Ending) (w' : World) : Prop := e = .returned (.int .i64 (kd op)) ∧ Below w.heap.size w w'
theorem gap0 (op : Int) (b : Bool) (w : World) (h : op ≤ -1) (hs : Calls Tryd.prog 86 #[.int .i64 op] w fun e w' => ∃ A n T, e = .returned (.tuple #[.slice A n n, .int .u8 T, .bool b]) ∧ Below w.heap.size w w') : Calls Tryd.prog 57 #[.int .i64 op] w fun e w' => e = .returned (.int .i64 (bif b then 1 else 0)) ∧ Below w.heap.size w w' := by
  have HS := Lib.hid hs
  have q12 : (op == 12) = false := by simp; omega
  have q13 : (op == 13) = false := by simp; omega
  have q16 : (op == 16) = false := by simp; omega
  have q14 : (op == 14) = false := by simp; omega
  have q17 : (op == 17) = false := by simp; omega
  have q40 : (op == 40) = false := by simp; omega
  have q41 : (op == 41) = false := by simp; omega
  have q63 : (op == 63) = false := by simp; omega
  have q64 : (op == 64) = false := by simp; omega
  have q65 : (op == 65) = false := by simp; omega
  have q66 : (op == 66) = false := by simp; omega
  have q0 : (op == 0) = false := by simp; omega
  have q1 : (op == 1) = false := by simp; omega
  have q5 : (op == 5) = false := by simp; omega
  have q11 : (op == 11) = false := by simp; omega
  have q15 : (op == 15) = false := by simp; omega
  have q26 : (op == 26) = false := by simp; omega
  have q27 : (op == 27) = false := by simp; omega
  have l2 : decide (2 ≤ op) = false := by simp; omega
  have l32 : decide (32 ≤ op) = false := by simp; omega
  have l44 : decide (44 ≤ op) = false := by simp; omega
  have l58 : decide (58 ≤ op) = false := by simp; omega
  have u4 : decide (op ≤ 4) = true := by simp; omega
  have u36 : decide (op ≤ 36) = true := by simp; omega
  have u55 : decide (op ≤ 55) = true := by simp; omega
  have u62 : decide (op ≤ 62) = true := by simp; omega
  clear h hs
  cases b with
  | true =>
    go_enter Tryd.func57, Tryd.ntmps57
    go_wp2_with fail
    refine HS.out.mono ?_
    rintro e w' ⟨A, n, T, rfl, hb⟩
    have HB := Lib.hid hb
    clear hb
    go_wp2_with fail
    go_ret
    exact ⟨rfl, HB.out⟩
  | false =>
    go_enter Tryd.func57, Tryd.ntmps57
    go_wp2_with fail
    refine HS.out.mono ?_
    rintro e w' ⟨A, n, T, rfl, hb⟩
    have HB := Lib.hid hb
    clear hb
    go_wp2_with fail
    go_ret
    exact ⟨rfl, HB.out⟩
theorem gap1 (op : Int) (b : Bool) (w : World) (h : 6 ≤ op ∧ op ≤ 10) (hs : Calls Tryd.prog 86 #[.int .i64 op] w fun e w' => ∃ A n T, e = .returned (.tuple #[.slice A n n, .int .u8 T, .bool b]) ∧ Below w.heap.size w w') : Calls Tryd.prog 57 #[.int .i64 op] w fun e w' => e = .returned (.int .i64 (bif b then 1 else 0)) ∧ Below w.heap.size w w' := by
  have HS := Lib.hid hs
  have q12 : (op == 12) = false := by simp; omega
  have q13 : (op == 13) = false := by simp; omega
  have q16 : (op == 16) = false := by simp; omega
  have q14 : (op == 14) = false := by simp; omega
  have q17 : (op == 17) = false := by simp; omega
  have q40 : (op == 40) = false := by simp; omega
  have q41 : (op == 41) = false := by simp; omega
  have q63 : (op == 63) = false := by simp; omega
  have q64 : (op == 64) = false := by simp; omega
  have q65 : (op == 65) = false := by simp; omega
  have q66 : (op == 66) = false := by simp; omega
  have q0 : (op == 0) = false := by simp; omega
  have q1 : (op == 1) = false := by simp; omega
  have q5 : (op == 5) = false := by simp; omega
  have q11 : (op == 11) = false := by simp; omega
  have q15 : (op == 15) = false := by simp; omega
  have q26 : (op == 26) = false := by simp; omega
  have q27 : (op == 27) = false := by simp; omega
  have l2 : decide (2 ≤ op) = true := by simp; omega
  have l32 : decide (32 ≤ op) = false := by simp; omega
  have l44 : decide (44 ≤ op) = false := by simp; omega
  have l58 : decide (58 ≤ op) = false := by simp; omega
  have u4 : decide (op ≤ 4) = false := by simp; omega
  have u36 : decide (op ≤ 36) = true := by simp; omega
  have u55 : decide (op ≤ 55) = true := by simp; omega
  have u62 : decide (op ≤ 62) = true := by simp; omega
  clear h hs
  cases b with
  | true =>
    go_enter Tryd.func57, Tryd.ntmps57
    go_wp2_with fail
    refine HS.out.mono ?_
    rintro e w' ⟨A, n, T, rfl, hb⟩
    have HB := Lib.hid hb
    clear hb
    go_wp2_with fail
    go_ret
    exact ⟨rfl, HB.out⟩
  | false =>
    go_enter Tryd.func57, Tryd.ntmps57
    go_wp2_with fail
    refine HS.out.mono ?_
    rintro e w' ⟨A, n, T, rfl, hb⟩
    have HB := Lib.hid hb
    clear hb
    go_wp2_with fail
    go_ret
    exact ⟨rfl, HB.out⟩
theorem gap2 (op : Int) (b : Bool) (w : World) (h : 18 ≤ op ∧ op ≤ 25) (hs : Calls Tryd.prog 86 #[.int .i64 op] w fun e w' => ∃ A n T, e = .returned (.tuple #[.slice A n n, .int .u8 T, .bool b]) ∧ Below w.heap.size w w') : Calls Tryd.prog 57 #[.int .i64 op] w fun e w' => e = .returned (.int .i64 (bif b then 1 else 0)) ∧ Below w.heap.size w w' := by
  have HS := Lib.hid hs
  have q12 : (op == 12) = false := by simp; omega
  have q13 : (op == 13) = false := by simp; omega
  have q16 : (op == 16) = false := by simp; omega
  have q14 : (op == 14) = false := by simp; omega
  have q17 : (op == 17) = false := by simp; omega
  have q40 : (op == 40) = false := by simp; omega
  have q41 : (op == 41) = false := by simp; omega
  have q63 : (op == 63) = false := by simp; omega
  have q64 : (op == 64) = false := by simp; omega
  have q65 : (op == 65) = false := by simp; omega
  have q66 : (op == 66) = false := by simp; omega
  have q0 : (op == 0) = false := by simp; omega
  have q1 : (op == 1) = false := by simp; omega
  have q5 : (op == 5) = false := by simp; omega
  have q11 : (op == 11) = false := by simp; omega
  have q15 : (op == 15) = false := by simp; omega
  have q26 : (op == 26) = false := by simp; omega
  have q27 : (op == 27) = false := by simp; omega
  have l2 : decide (2 ≤ op) = true := by simp; omega
  have l32 : decide (32 ≤ op) = false := by simp; omega
  have l44 : decide (44 ≤ op) = false := by simp; omega
  have l58 : decide (58 ≤ op) = false := by simp; omega
  have u4 : decide (op ≤ 4) = false := by simp; omega
  have u36 : decide (op ≤ 36) = true := by simp; omega
  have u55 : decide (op ≤ 55) = true := by simp; omega
  have u62 : decide (op ≤ 62) = true := by simp; omega
  clear h hs
  cases b with
  | true =>
    go_enter Tryd.func57, Tryd.ntmps57
    go_wp2_with fail
    refine HS.out.mono ?_
    rintro e w' ⟨A, n, T, rfl, hb⟩
    have HB := Lib.hid hb
    clear hb
    go_wp2_with fail
    go_ret
    exact ⟨rfl, HB.out⟩
  | false =>
    go_enter Tryd.func57, Tryd.ntmps57
    go_wp2_with fail
    refine HS.out.mono ?_
    rintro e w' ⟨A, n, T, rfl, hb⟩
    have HB := Lib.hid hb
    clear hb
    go_wp2_with fail
    go_ret
    exact ⟨rfl, HB.out⟩
theorem gap3 (op : Int) (b : Bool) (w : World) (h : 28 ≤ op ∧ op ≤ 31) (hs : Calls Tryd.prog 86 #[.int .i64 op] w fun e w' => ∃ A n T, e = .returned (.tuple #[.slice A n n, .int .u8 T, .bool b]) ∧ Below w.heap.size w w') : Calls Tryd.prog 57 #[.int .i64 op] w fun e w' => e = .returned (.int .i64 (bif b then 1 else 0)) ∧ Below w.heap.size w w' := by
  have HS := Lib.hid hs
  have q12 : (op == 12) = false := by simp; omega
  have q13 : (op == 13) = false := by simp; omega
  have q16 : (op == 16) = false := by simp; omega
  have q14 : (op == 14) = false := by simp; omega
  have q17 : (op == 17) = false := by simp; omega
  have q40 : (op == 40) = false := by simp; omega
  have q41 : (op == 41) = false := by simp; omega
  have q63 : (op == 63) = false := by simp; omega
  have q64 : (op == 64) = false := by simp; omega
  have q65 : (op == 65) = false := by simp; omega
  have q66 : (op == 66) = false := by simp; omega
  have q0 : (op == 0) = false := by simp; omega
  have q1 : (op == 1) = false := by simp; omega
  have q5 : (op == 5) = false := by simp; omega
  have q11 : (op == 11) = false := by simp; omega
  have q15 : (op == 15) = false := by simp; omega
  have q26 : (op == 26) = false := by simp; omega
  have q27 : (op == 27) = false := by simp; omega
  have l2 : decide (2 ≤ op) = true := by simp; omega
  have l32 : decide (32 ≤ op) = false := by simp; omega
  have l44 : decide (44 ≤ op) = false := by simp; omega
  have l58 : decide (58 ≤ op) = false := by simp; omega
  have u4 : decide (op ≤ 4) = false := by simp; omega
  have u36 : decide (op ≤ 36) = true := by simp; omega
  have u55 : decide (op ≤ 55) = true := by simp; omega
  have u62 : decide (op ≤ 62) = true := by simp; omega
  clear h hs
  cases b with
  | true =>
    go_enter Tryd.func57, Tryd.ntmps57
    go_wp2_with fail
    refine HS.out.mono ?_
    rintro e w' ⟨A, n, T, rfl, hb⟩
    have HB := Lib.hid hb
    clear hb
    go_wp2_with fail
    go_ret
    exact ⟨rfl, HB.out⟩
  | false =>
    go_enter Tryd.func57, Tryd.ntmps57
    go_wp2_with fail
    refine HS.out.mono ?_
    rintro e w' ⟨A, n, T, rfl, hb⟩
    have HB := Lib.hid hb
    clear hb
    go_wp2_with fail
    go_ret
    exact ⟨rfl, HB.out⟩
theorem gap4 (op : Int) (b : Bool) (w : World) (h : 37 ≤ op ∧ op ≤ 39) (hs : Calls Tryd.prog 86 #[.int .i64 op] w fun e w' => ∃ A n T, e = .returned (.tuple #[.slice A n n, .int .u8 T, .bool b]) ∧ Below w.heap.size w w') : Calls Tryd.prog 57 #[.int .i64 op] w fun e w' => e = .returned (.int .i64 (bif b then 1 else 0)) ∧ Below w.heap.size w w' := by
  have HS := Lib.hid hs
  have q12 : (op == 12) = false := by simp; omega
  have q13 : (op == 13) = false := by simp; omega
  have q16 : (op == 16) = false := by simp; omega
  have q14 : (op == 14) = false := by simp; omega
  have q17 : (op == 17) = false := by simp; omega
  have q40 : (op == 40) = false := by simp; omega
  have q41 : (op == 41) = false := by simp; omega
  have q63 : (op == 63) = false := by simp; omega
  have q64 : (op == 64) = false := by simp; omega
  have q65 : (op == 65) = false := by simp; omega
  have q66 : (op == 66) = false := by simp; omega
  have q0 : (op == 0) = false := by simp; omega
  have q1 : (op == 1) = false := by simp; omega
  have q5 : (op == 5) = false := by simp; omega
  have q11 : (op == 11) = false := by simp; omega
  have q15 : (op == 15) = false := by simp; omega
  have q26 : (op == 26) = false := by simp; omega
  have q27 : (op == 27) = false := by simp; omega
  have l2 : decide (2 ≤ op) = true := by simp; omega
  have l32 : decide (32 ≤ op) = true := by simp; omega
  have l44 : decide (44 ≤ op) = false := by simp; omega
  have l58 : decide (58 ≤ op) = false := by simp; omega
  have u4 : decide (op ≤ 4) = false := by simp; omega
  have u36 : decide (op ≤ 36) = false := by simp; omega
  have u55 : decide (op ≤ 55) = true := by simp; omega
  have u62 : decide (op ≤ 62) = true := by simp; omega
  clear h hs
  cases b with
  | true =>
    go_enter Tryd.func57, Tryd.ntmps57
    go_wp2_with fail
    refine HS.out.mono ?_
    rintro e w' ⟨A, n, T, rfl, hb⟩
    have HB := Lib.hid hb
    clear hb
    go_wp2_with fail
    go_ret
    exact ⟨rfl, HB.out⟩
  | false =>
    go_enter Tryd.func57, Tryd.ntmps57
    go_wp2_with fail
    refine HS.out.mono ?_
    rintro e w' ⟨A, n, T, rfl, hb⟩
    have HB := Lib.hid hb
    clear hb
    go_wp2_with fail
    go_ret
    exact ⟨rfl, HB.out⟩
theorem gap5 (op : Int) (b : Bool) (w : World) (h : 42 ≤ op ∧ op ≤ 43) (hs : Calls Tryd.prog 86 #[.int .i64 op] w fun e w' => ∃ A n T, e = .returned (.tuple #[.slice A n n, .int .u8 T, .bool b]) ∧ Below w.heap.size w w') : Calls Tryd.prog 57 #[.int .i64 op] w fun e w' => e = .returned (.int .i64 (bif b then 1 else 0)) ∧ Below w.heap.size w w' := by
  have HS := Lib.hid hs
  have q12 : (op == 12) = false := by simp; omega
  have q13 : (op == 13) = false := by simp; omega
  have q16 : (op == 16) = false := by simp; omega
  have q14 : (op == 14) = false := by simp; omega
  have q17 : (op == 17) = false := by simp; omega
  have q40 : (op == 40) = false := by simp; omega
  have q41 : (op == 41) = false := by simp; omega
  have q63 : (op == 63) = false := by simp; omega
  have q64 : (op == 64) = false := by simp; omega
  have q65 : (op == 65) = false := by simp; omega
  have q66 : (op == 66) = false := by simp; omega
  have q0 : (op == 0) = false := by simp; omega
  have q1 : (op == 1) = false := by simp; omega
  have q5 : (op == 5) = false := by simp; omega
  have q11 : (op == 11) = false := by simp; omega
  have q15 : (op == 15) = false := by simp; omega
  have q26 : (op == 26) = false := by simp; omega
  have q27 : (op == 27) = false := by simp; omega
  have l2 : decide (2 ≤ op) = true := by simp; omega
  have l32 : decide (32 ≤ op) = true := by simp; omega
  have l44 : decide (44 ≤ op) = false := by simp; omega
  have l58 : decide (58 ≤ op) = false := by simp; omega
  have u4 : decide (op ≤ 4) = false := by simp; omega
  have u36 : decide (op ≤ 36) = false := by simp; omega
  have u55 : decide (op ≤ 55) = true := by simp; omega
  have u62 : decide (op ≤ 62) = true := by simp; omega
  clear h hs
  cases b with
  | true =>
    go_enter Tryd.func57, Tryd.ntmps57
    go_wp2_with fail
    refine HS.out.mono ?_
    rintro e w' ⟨A, n, T, rfl, hb⟩
    have HB := Lib.hid hb
    clear hb
    go_wp2_with fail
    go_ret
    exact ⟨rfl, HB.out⟩
  | false =>
    go_enter Tryd.func57, Tryd.ntmps57
    go_wp2_with fail
    refine HS.out.mono ?_
    rintro e w' ⟨A, n, T, rfl, hb⟩
    have HB := Lib.hid hb
    clear hb
    go_wp2_with fail
    go_ret
    exact ⟨rfl, HB.out⟩
theorem gap6 (op : Int) (b : Bool) (w : World) (h : 56 ≤ op ∧ op ≤ 57) (hs : Calls Tryd.prog 86 #[.int .i64 op] w fun e w' => ∃ A n T, e = .returned (.tuple #[.slice A n n, .int .u8 T, .bool b]) ∧ Below w.heap.size w w') : Calls Tryd.prog 57 #[.int .i64 op] w fun e w' => e = .returned (.int .i64 (bif b then 1 else 0)) ∧ Below w.heap.size w w' := by
  have HS := Lib.hid hs
  have q12 : (op == 12) = false := by simp; omega
  have q13 : (op == 13) = false := by simp; omega
  have q16 : (op == 16) = false := by simp; omega
  have q14 : (op == 14) = false := by simp; omega
  have q17 : (op == 17) = false := by simp; omega
  have q40 : (op == 40) = false := by simp; omega
  have q41 : (op == 41) = false := by simp; omega
  have q63 : (op == 63) = false := by simp; omega
  have q64 : (op == 64) = false := by simp; omega
  have q65 : (op == 65) = false := by simp; omega
  have q66 : (op == 66) = false := by simp; omega
  have q0 : (op == 0) = false := by simp; omega
  have q1 : (op == 1) = false := by simp; omega
  have q5 : (op == 5) = false := by simp; omega
  have q11 : (op == 11) = false := by simp; omega
  have q15 : (op == 15) = false := by simp; omega
  have q26 : (op == 26) = false := by simp; omega
  have q27 : (op == 27) = false := by simp; omega
  have l2 : decide (2 ≤ op) = true := by simp; omega
  have l32 : decide (32 ≤ op) = true := by simp; omega
  have l44 : decide (44 ≤ op) = true := by simp; omega
  have l58 : decide (58 ≤ op) = false := by simp; omega
  have u4 : decide (op ≤ 4) = false := by simp; omega
  have u36 : decide (op ≤ 36) = false := by simp; omega
  have u55 : decide (op ≤ 55) = false := by simp; omega
  have u62 : decide (op ≤ 62) = true := by simp; omega
  clear h hs
  cases b with
  | true =>
    go_enter Tryd.func57, Tryd.ntmps57
    go_wp2_with fail
    refine HS.out.mono ?_
    rintro e w' ⟨A, n, T, rfl, hb⟩
    have HB := Lib.hid hb
    clear hb
    go_wp2_with fail
    go_ret
    exact ⟨rfl, HB.out⟩
  | false =>
    go_enter Tryd.func57, Tryd.ntmps57
    go_wp2_with fail
    refine HS.out.mono ?_
    rintro e w' ⟨A, n, T, rfl, hb⟩
    have HB := Lib.hid hb
    clear hb
    go_wp2_with fail
    go_ret
    exact ⟨rfl, HB.out⟩
theorem gap7 (op : Int) (b : Bool) (w : World) (h : 67 ≤ op) (hs : Calls Tryd.prog 86 #[.int .i64 op] w fun e w' => ∃ A n T, e = .returned (.tuple #[.slice A n n, .int .u8 T, .bool b]) ∧ Below w.heap.size w w') : Calls Tryd.prog 57 #[.int .i64 op] w fun e w' => e = .returned (.int .i64 (bif b then 1 else 0)) ∧ Below w.heap.size w w' := by
  have HS := Lib.hid hs
  have q12 : (op == 12) = false := by simp; omega
  have q13 : (op == 13) = false := by simp; omega
  have q16 : (op == 16) = false := by simp; omega
  have q14 : (op == 14) = false := by simp; omega
  have q17 : (op == 17) = false := by simp; omega
  have q40 : (op == 40) = false := by simp; omega
  have q41 : (op == 41) = false := by simp; omega
  have q63 : (op == 63) = false := by simp; omega
  have q64 : (op == 64) = false := by simp; omega
  have q65 : (op == 65) = false := by simp; omega
  have q66 : (op == 66) = false := by simp; omega
  have q0 : (op == 0) = false := by simp; omega
  have q1 : (op == 1) = false := by simp; omega
  have q5 : (op == 5) = false := by simp; omega
  have q11 : (op == 11) = false := by simp; omega
  have q15 : (op == 15) = false := by simp; omega
  have q26 : (op == 26) = false := by simp; omega
  have q27 : (op == 27) = false := by simp; omega
  have l2 : decide (2 ≤ op) = true := by simp; omega
  have l32 : decide (32 ≤ op) = true := by simp; omega
  have l44 : decide (44 ≤ op) = true := by simp; omega
  have l58 : decide (58 ≤ op) = true := by simp; omega
  have u4 : decide (op ≤ 4) = false := by simp; omega
  have u36 : decide (op ≤ 36) = false := by simp; omega
  have u55 : decide (op ≤ 55) = false := by simp; omega
  have u62 : decide (op ≤ 62) = false := by simp; omega
  clear h hs
  cases b with
  | true =>
    go_enter Tryd.func57, Tryd.ntmps57
    go_wp2_with fail
    refine HS.out.mono ?_
    rintro e w' ⟨A, n, T, rfl, hb⟩
    have HB := Lib.hid hb
    clear hb
    go_wp2_with fail
    go_ret
    exact ⟨rfl, HB.out⟩
  | false =>
    go_enter Tryd.func57, Tryd.ntmps57
    go_wp2_with fail
    refine HS.out.mono ?_
    rintro e w' ⟨A, n, T, rfl, hb⟩
    have HB := Lib.hid hb
    clear hb
    go_wp2_with fail
    go_ret
    exact ⟨rfl, HB.out⟩
theorem kind_gap (op : Int) (w : World) (h : op < 0 ∨ (5 < op ∧ op < 11) ∨ (17 < op ∧ op < 26) ∨ (27 < op ∧ op < 32) ∨ (36 < op ∧ op < 40) ∨ op = 42 ∨ op = 43 ∨ op = 56 ∨ op = 57 ∨ 66 < op) : Calls Tryd.prog 57 #[.int .i64 op] w (KdTold op w) := by
  have HS := rshape_is op w
  have hk : kd op = bif opB op then 1 else 0 := by
    unfold kd opB
    iterate 9 (rw [if_neg (by omega)])
    by_cases g : (69 ≤ op ∧ op ≤ 90) ∨ (103 ≤ op ∧ op ≤ 138) ∨ op = 167 ∨ op = 172 ∨ op = 173
    · rw [if_pos g, decide_eq_true g]; rfl
    · rw [if_neg g, decide_eq_false g]; rfl
  unfold KdTold
  rw [hk]
  by_cases g0 : op ≤ -1
  · exact gap0 op _ w g0 HS
  by_cases g1 : 6 ≤ op ∧ op ≤ 10
  · exact gap1 op _ w g1 HS
  by_cases g2 : 18 ≤ op ∧ op ≤ 25
  · exact gap2 op _ w g2 HS
  by_cases g3 : 28 ≤ op ∧ op ≤ 31
  · exact gap3 op _ w g3 HS
  by_cases g4 : 37 ≤ op ∧ op ≤ 39
  · exact gap4 op _ w g4 HS
  by_cases g5 : 42 ≤ op ∧ op ≤ 43
  · exact gap5 op _ w g5 HS
  by_cases g6 : 56 ≤ op ∧ op ≤ 57
  · exact gap6 op _ w g6 HS
  exact gap7 op _ w (by omega) HS
theorem kind_code (op : Int) (w : World) (h : (0 ≤ op ∧ op ≤ 5) ∨ (11 ≤ op ∧ op ≤ 17) ∨ op = 26 ∨ op = 27 ∨ (32 ≤ op ∧ op ≤ 36) ∨ op = 40 ∨ op = 41 ∨ (44 ≤ op ∧ op ≤ 55) ∨ (58 ≤ op ∧ op ≤ 66)) : Calls Tryd.prog 57 #[.int .i64 op] w (KdTold op w) := by
  have e : op = 0 ∨ op = 1 ∨ op = 2 ∨ op = 3 ∨ op = 4 ∨ op = 5 ∨ op = 11 ∨ op = 12 ∨ op = 13 ∨ op = 14 ∨ op = 15 ∨ op = 16 ∨ op = 17 ∨ op = 26 ∨ op = 27 ∨ op = 32 ∨ op = 33 ∨ op = 34 ∨ op = 35 ∨ op = 36 ∨ op = 40 ∨ op = 41 ∨ op = 44 ∨ op = 45 ∨ op = 46 ∨ op = 47 ∨ op = 48 ∨ op = 49 ∨ op = 50 ∨ op = 51 ∨ op = 52 ∨ op = 53 ∨ op = 54 ∨ op = 55 ∨ op = 58 ∨ op = 59 ∨ op = 60 ∨ op = 61 ∨ op = 62 ∨ op = 63 ∨ op = 64 ∨ op = 65 ∨ op = 66 := by omega
  clear h
  rcases e with rfl | rfl | rfl | rfl | rfl | rfl | rfl | rfl | rfl | rfl | rfl | rfl | rfl | rfl | rfl | rfl | rfl | rfl | rfl | rfl | rfl | rfl | rfl | rfl | rfl | rfl | rfl | rfl | rfl | rfl | rfl | rfl | rfl | rfl | rfl | rfl | rfl | rfl | rfl | rfl | rfl | rfl | rfl
  all_goals
    go_enter Tryd.func57, Tryd.ntmps57
    go_wp2
    go_ret
    exact ⟨rfl, Below.refl _ _⟩
theorem rkind_any (op : Int) (w : World) : Calls Tryd.prog 57 #[.int .i64 op] w (KdTold op w) := by
  by_cases h : op < 0 ∨ (5 < op ∧ op < 11) ∨ (17 < op ∧ op < 26) ∨ (27 < op ∧ op < 32) ∨ (36 < op ∧ op < 40) ∨ op = 42 ∨ op = 43 ∨ op = 56 ∨ op = 57 ∨ 66 < op
  · exact kind_gap op w h
  · exact kind_code op w (by omega)
end Go.Proofs.YtdmidagcdhhlhaaDoor.Ins
