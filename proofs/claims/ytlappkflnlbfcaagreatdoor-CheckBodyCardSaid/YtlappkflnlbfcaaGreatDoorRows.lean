/-
  NARROWER THAN 'FOR EVERY INPUT', by the rows' own cells (each row's printed sentence says how): CheckStep: laid · CheckBody: laid · CheckLeaves: laid · CheckMore: laid · CheckCuts: laid · CheckResults: laid.
  DERIVED. THE GIVEN ROWS OF THIS SEAT. 6 by the template 'for every input the law returns true; each argument reads behind the call as it read before'; 0 by the template 'total and deterministic' (their statements: YtlappkflnlbfcaaGreatDoorTotals.lean).
  GIVEN WITH THE SEED: the statements are not yours to turn. If you find one false, say at which input.
  Laid BY PROGRAM, IN A SANDBOX (cutbox-rows.mjs): the forced cells as the released guide's own fill.sh prints them over the translation 4c992edab9925124… (all of the seat's roots in one cut). By AI agents, Wed Nov 11 2026. No macro, syntax, notation, axiom, sorry.
-/
import Derived.Test.YtlappkflnlbfcaaGreatDoorChecked
import GoSem.Claim
import GoSem.ClaimJoined
import GoSem.ClaimMapViews
import Derived.JoinedTies
import Derived.KernelRfl
namespace Go.Proofs.YtlappkflnlbfcaaGreatDoor
/- THE CELL 'sum', in the pinned program and in every row, IS THE sha256 OF THE DUMP (.gsa) THAT YtlappkflnlbfcaaGreatDoorProg.lean LOADS. Nothing in Lean hashes anything: it is a label: what it is worth is what the hold of that sum in a sandbox is worth. -/
noncomputable def Tryz.pinned : Pinned := { name := "ytlappkflnlbfcaagreatdoor", sum := "4c992edab99251243642d69af7dda512d3a2a148f9ebd14f10572b3bce788d00", checked := Tryz.checked }
namespace Rows
def none {H : Type} : Left H := { results := [], args := [] }

/- WHAT THE LISTED PACKAGE-LEVEL VARIABLES READ AS WHEN THE CALL BEGINS. Each datum BY PROGRAM (the guide's laid-datum.mjs) off the statement by which the dump's own 'gosem.cut.vars' lays the variable. In a bare row this is a premise. The card (YtlappkflnlbfcaaGreatDoorCards.lean) ties it to the program's text. -/
def laid_avocet_instr_kinds {H : Type} : DataW H := .agg [.lit (.int .u8 1), .lit (.int .u8 1), .lit (.int .u8 2), .lit (.int .u8 2), .lit (.int .u8 2), .lit (.int .u8 1), .lit (.int .u8 0), .lit (.int .u8 0), .lit (.int .u8 0), .lit (.int .u8 0), .lit (.int .u8 0), .lit (.int .u8 1), .lit (.int .u8 3), .lit (.int .u8 3), .lit (.int .u8 4), .lit (.int .u8 1), .lit (.int .u8 3), .lit (.int .u8 5), .lit (.int .u8 0), .lit (.int .u8 0), .lit (.int .u8 0), .lit (.int .u8 0), .lit (.int .u8 0), .lit (.int .u8 0), .lit (.int .u8 0), .lit (.int .u8 0), .lit (.int .u8 1), .lit (.int .u8 1), .lit (.int .u8 0), .lit (.int .u8 0), .lit (.int .u8 0), .lit (.int .u8 0), .lit (.int .u8 3), .lit (.int .u8 3), .lit (.int .u8 3), .lit (.int .u8 3), .lit (.int .u8 3), .lit (.int .u8 0), .lit (.int .u8 0), .lit (.int .u8 0), .lit (.int .u8 6), .lit (.int .u8 6), .lit (.int .u8 0), .lit (.int .u8 0), .lit (.int .u8 6), .lit (.int .u8 6), .lit (.int .u8 6), .lit (.int .u8 6), .lit (.int .u8 6), .lit (.int .u8 6), .lit (.int .u8 6), .lit (.int .u8 6), .lit (.int .u8 6), .lit (.int .u8 6), .lit (.int .u8 6), .lit (.int .u8 6), .lit (.int .u8 0), .lit (.int .u8 0), .lit (.int .u8 6), .lit (.int .u8 6), .lit (.int .u8 6), .lit (.int .u8 6), .lit (.int .u8 6), .lit (.int .u8 7), .lit (.int .u8 7), .lit (.int .u8 8), .lit (.int .u8 9), .lit (.int .u8 0), .lit (.int .u8 0), .lit (.int .u8 1), .lit (.int .u8 1), .lit (.int .u8 1), .lit (.int .u8 1), .lit (.int .u8 1), .lit (.int .u8 1), .lit (.int .u8 1), .lit (.int .u8 1), .lit (.int .u8 1), .lit (.int .u8 1), .lit (.int .u8 1), .lit (.int .u8 1), .lit (.int .u8 1), .lit (.int .u8 1), .lit (.int .u8 1), .lit (.int .u8 1), .lit (.int .u8 1), .lit (.int .u8 1), .lit (.int .u8 1), .lit (.int .u8 1), .lit (.int .u8 1), .lit (.int .u8 1), .lit (.int .u8 0), .lit (.int .u8 0), .lit (.int .u8 0), .lit (.int .u8 0), .lit (.int .u8 0), .lit (.int .u8 0), .lit (.int .u8 0), .lit (.int .u8 0), .lit (.int .u8 0), .lit (.int .u8 0), .lit (.int .u8 0), .lit (.int .u8 0), .lit (.int .u8 1), .lit (.int .u8 1), .lit (.int .u8 1), .lit (.int .u8 1), .lit (.int .u8 1), .lit (.int .u8 1), .lit (.int .u8 1), .lit (.int .u8 1), .lit (.int .u8 1), .lit (.int .u8 1), .lit (.int .u8 1), .lit (.int .u8 1), .lit (.int .u8 1), .lit (.int .u8 1), .lit (.int .u8 1), .lit (.int .u8 1), .lit (.int .u8 1), .lit (.int .u8 1), .lit (.int .u8 1), .lit (.int .u8 1), .lit (.int .u8 1), .lit (.int .u8 1), .lit (.int .u8 1), .lit (.int .u8 1), .lit (.int .u8 1), .lit (.int .u8 1), .lit (.int .u8 1), .lit (.int .u8 1), .lit (.int .u8 1), .lit (.int .u8 1), .lit (.int .u8 1), .lit (.int .u8 1), .lit (.int .u8 1), .lit (.int .u8 1), .lit (.int .u8 1), .lit (.int .u8 1), .lit (.int .u8 0), .lit (.int .u8 0), .lit (.int .u8 0), .lit (.int .u8 0), .lit (.int .u8 0), .lit (.int .u8 0), .lit (.int .u8 0), .lit (.int .u8 0), .lit (.int .u8 0), .lit (.int .u8 0), .lit (.int .u8 0), .lit (.int .u8 0), .lit (.int .u8 0), .lit (.int .u8 0), .lit (.int .u8 0), .lit (.int .u8 0), .lit (.int .u8 0), .lit (.int .u8 0), .lit (.int .u8 0), .lit (.int .u8 0), .lit (.int .u8 0), .lit (.int .u8 0), .lit (.int .u8 0), .lit (.int .u8 0), .lit (.int .u8 0), .lit (.int .u8 0), .lit (.int .u8 0), .lit (.int .u8 0), .lit (.int .u8 1), .lit (.int .u8 0), .lit (.int .u8 0), .lit (.int .u8 0), .lit (.int .u8 0), .lit (.int .u8 1), .lit (.int .u8 1)]
def laid_avocet_instr_accesses {H : Type} : DataW H := .agg [.agg [.lit (.int .u8 127), .lit (.int .i64 4), .lit (.bool false), .lit (.bool false)], .agg [.lit (.int .u8 126), .lit (.int .i64 8), .lit (.bool false), .lit (.bool false)], .agg [.lit (.int .u8 0), .lit (.int .i64 0), .lit (.bool false), .lit (.bool false)], .agg [.lit (.int .u8 0), .lit (.int .i64 0), .lit (.bool false), .lit (.bool false)], .agg [.lit (.int .u8 127), .lit (.int .i64 1), .lit (.bool true), .lit (.bool false)], .agg [.lit (.int .u8 127), .lit (.int .i64 1), .lit (.bool false), .lit (.bool false)], .agg [.lit (.int .u8 127), .lit (.int .i64 2), .lit (.bool true), .lit (.bool false)], .agg [.lit (.int .u8 127), .lit (.int .i64 2), .lit (.bool false), .lit (.bool false)], .agg [.lit (.int .u8 126), .lit (.int .i64 1), .lit (.bool true), .lit (.bool false)], .agg [.lit (.int .u8 126), .lit (.int .i64 1), .lit (.bool false), .lit (.bool false)], .agg [.lit (.int .u8 126), .lit (.int .i64 2), .lit (.bool true), .lit (.bool false)], .agg [.lit (.int .u8 126), .lit (.int .i64 2), .lit (.bool false), .lit (.bool false)], .agg [.lit (.int .u8 126), .lit (.int .i64 4), .lit (.bool true), .lit (.bool false)], .agg [.lit (.int .u8 126), .lit (.int .i64 4), .lit (.bool false), .lit (.bool false)], .agg [.lit (.int .u8 127), .lit (.int .i64 4), .lit (.bool false), .lit (.bool true)], .agg [.lit (.int .u8 126), .lit (.int .i64 8), .lit (.bool false), .lit (.bool true)], .agg [.lit (.int .u8 0), .lit (.int .i64 0), .lit (.bool false), .lit (.bool false)], .agg [.lit (.int .u8 0), .lit (.int .i64 0), .lit (.bool false), .lit (.bool false)], .agg [.lit (.int .u8 127), .lit (.int .i64 1), .lit (.bool false), .lit (.bool true)], .agg [.lit (.int .u8 127), .lit (.int .i64 2), .lit (.bool false), .lit (.bool true)], .agg [.lit (.int .u8 126), .lit (.int .i64 1), .lit (.bool false), .lit (.bool true)], .agg [.lit (.int .u8 126), .lit (.int .i64 2), .lit (.bool false), .lit (.bool true)], .agg [.lit (.int .u8 126), .lit (.int .i64 4), .lit (.bool false), .lit (.bool true)]]

/-- 'avocetlaw10.CheckStep': WHATEVER THE INPUT: true; the input reads as it did. -/
def checkStepSpec : ChangeSpec := { name := "checkStep", fn := fun _ => fun
  | [d1, d2, d3, d4] => { results := [.lit (.bool true)], args := [d1, d2, d3, d4] }
  | _ => none }
def checkStepRow : OpenClaim := { program := "ytlappkflnlbfcaagreatdoor", sum := "4c992edab99251243642d69af7dda512d3a2a148f9ebd14f10572b3bce788d00", func := "avocet/avocetlaw10.CheckStep", spec := "checkStep", unfollowed := true, recurses := true, named := ["avocet/instr.kinds", "avocet/instr.accesses"], apart := false, laid := [("avocet/instr.kinds", laid_avocet_instr_kinds), ("avocet/instr.accesses", laid_avocet_instr_accesses)] }
def CheckStepSaid : Prop := checkStepRow.holds Tryz.pinned (OpenSpec.ofChange checkStepSpec)

/-- ITS FALSE NEIGHBOUR: 'it returns false'. Refute it at one input. -/
def checkStepWrong : ChangeSpec := { name := "checkStep", fn := fun _ => fun
  | [d1, d2, d3, d4] => { results := [.lit (.bool false)], args := [d1, d2, d3, d4] }
  | _ => none }
def CheckStepWrongFalsely : Prop := checkStepRow.holds Tryz.pinned (OpenSpec.ofChange checkStepWrong)

/-- 'avocetlaw10.CheckBody': WHATEVER THE INPUT: true; the input reads as it did. -/
def checkBodySpec : ChangeSpec := { name := "checkBody", fn := fun _ => fun
  | [d1, d2] => { results := [.lit (.bool true)], args := [d1, d2] }
  | _ => none }
def checkBodyRow : OpenClaim := { program := "ytlappkflnlbfcaagreatdoor", sum := "4c992edab99251243642d69af7dda512d3a2a148f9ebd14f10572b3bce788d00", func := "avocet/avocetlaw10.CheckBody", spec := "checkBody", unfollowed := true, recurses := true, named := ["avocet/instr.kinds", "avocet/instr.accesses"], apart := false, laid := [("avocet/instr.kinds", laid_avocet_instr_kinds), ("avocet/instr.accesses", laid_avocet_instr_accesses)] }
def CheckBodySaid : Prop := checkBodyRow.holds Tryz.pinned (OpenSpec.ofChange checkBodySpec)

/-- ITS FALSE NEIGHBOUR: 'it returns false'. Refute it at one input. -/
def checkBodyWrong : ChangeSpec := { name := "checkBody", fn := fun _ => fun
  | [d1, d2] => { results := [.lit (.bool false)], args := [d1, d2] }
  | _ => none }
def CheckBodyWrongFalsely : Prop := checkBodyRow.holds Tryz.pinned (OpenSpec.ofChange checkBodyWrong)

/-- 'avocetlaw10.CheckLeaves': WHATEVER THE INPUT: true; the input reads as it did. -/
def checkLeavesSpec : ChangeSpec := { name := "checkLeaves", fn := fun _ => fun
  | [d1, d2] => { results := [.lit (.bool true)], args := [d1, d2] }
  | _ => none }
def checkLeavesRow : OpenClaim := { program := "ytlappkflnlbfcaagreatdoor", sum := "4c992edab99251243642d69af7dda512d3a2a148f9ebd14f10572b3bce788d00", func := "avocet/avocetlaw10.CheckLeaves", spec := "checkLeaves", unfollowed := true, recurses := true, named := ["avocet/instr.kinds", "avocet/instr.accesses"], apart := false, laid := [("avocet/instr.kinds", laid_avocet_instr_kinds), ("avocet/instr.accesses", laid_avocet_instr_accesses)] }
def CheckLeavesSaid : Prop := checkLeavesRow.holds Tryz.pinned (OpenSpec.ofChange checkLeavesSpec)

/-- ITS FALSE NEIGHBOUR: 'it returns false'. Refute it at one input. -/
def checkLeavesWrong : ChangeSpec := { name := "checkLeaves", fn := fun _ => fun
  | [d1, d2] => { results := [.lit (.bool false)], args := [d1, d2] }
  | _ => none }
def CheckLeavesWrongFalsely : Prop := checkLeavesRow.holds Tryz.pinned (OpenSpec.ofChange checkLeavesWrong)

/-- 'avocetlaw10.CheckMore': WHATEVER THE INPUT: true; the input reads as it did. -/
def checkMoreSpec : ChangeSpec := { name := "checkMore", fn := fun _ => fun
  | [d1, d2, d3] => { results := [.lit (.bool true)], args := [d1, d2, d3] }
  | _ => none }
def checkMoreRow : OpenClaim := { program := "ytlappkflnlbfcaagreatdoor", sum := "4c992edab99251243642d69af7dda512d3a2a148f9ebd14f10572b3bce788d00", func := "avocet/avocetlaw10.CheckMore", spec := "checkMore", unfollowed := true, recurses := true, named := ["avocet/instr.kinds", "avocet/instr.accesses"], apart := false, laid := [("avocet/instr.kinds", laid_avocet_instr_kinds), ("avocet/instr.accesses", laid_avocet_instr_accesses)] }
def CheckMoreSaid : Prop := checkMoreRow.holds Tryz.pinned (OpenSpec.ofChange checkMoreSpec)

/-- ITS FALSE NEIGHBOUR: 'it returns false'. Refute it at one input. -/
def checkMoreWrong : ChangeSpec := { name := "checkMore", fn := fun _ => fun
  | [d1, d2, d3] => { results := [.lit (.bool false)], args := [d1, d2, d3] }
  | _ => none }
def CheckMoreWrongFalsely : Prop := checkMoreRow.holds Tryz.pinned (OpenSpec.ofChange checkMoreWrong)

/-- 'avocetlaw10.CheckCuts': WHATEVER THE INPUT: true; the input reads as it did. -/
def checkCutsSpec : ChangeSpec := { name := "checkCuts", fn := fun _ => fun
  | [d1, d2, d3] => { results := [.lit (.bool true)], args := [d1, d2, d3] }
  | _ => none }
def checkCutsRow : OpenClaim := { program := "ytlappkflnlbfcaagreatdoor", sum := "4c992edab99251243642d69af7dda512d3a2a148f9ebd14f10572b3bce788d00", func := "avocet/avocetlaw10.CheckCuts", spec := "checkCuts", unfollowed := true, recurses := true, named := ["avocet/instr.kinds", "avocet/instr.accesses"], apart := false, laid := [("avocet/instr.kinds", laid_avocet_instr_kinds), ("avocet/instr.accesses", laid_avocet_instr_accesses)] }
def CheckCutsSaid : Prop := checkCutsRow.holds Tryz.pinned (OpenSpec.ofChange checkCutsSpec)

/-- ITS FALSE NEIGHBOUR: 'it returns false'. Refute it at one input. -/
def checkCutsWrong : ChangeSpec := { name := "checkCuts", fn := fun _ => fun
  | [d1, d2, d3] => { results := [.lit (.bool false)], args := [d1, d2, d3] }
  | _ => none }
def CheckCutsWrongFalsely : Prop := checkCutsRow.holds Tryz.pinned (OpenSpec.ofChange checkCutsWrong)

/-- 'avocetlaw10.CheckResults': WHATEVER THE INPUT: true; the input reads as it did. -/
def checkResultsSpec : ChangeSpec := { name := "checkResults", fn := fun _ => fun
  | [d1, d2] => { results := [.lit (.bool true)], args := [d1, d2] }
  | _ => none }
def checkResultsRow : OpenClaim := { program := "ytlappkflnlbfcaagreatdoor", sum := "4c992edab99251243642d69af7dda512d3a2a148f9ebd14f10572b3bce788d00", func := "avocet/avocetlaw10.CheckResults", spec := "checkResults", unfollowed := true, recurses := true, named := ["avocet/instr.kinds", "avocet/instr.accesses"], apart := false, laid := [("avocet/instr.kinds", laid_avocet_instr_kinds), ("avocet/instr.accesses", laid_avocet_instr_accesses)] }
def CheckResultsSaid : Prop := checkResultsRow.holds Tryz.pinned (OpenSpec.ofChange checkResultsSpec)

/-- ITS FALSE NEIGHBOUR: 'it returns false'. Refute it at one input. -/
def checkResultsWrong : ChangeSpec := { name := "checkResults", fn := fun _ => fun
  | [d1, d2] => { results := [.lit (.bool false)], args := [d1, d2] }
  | _ => none }
def CheckResultsWrongFalsely : Prop := checkResultsRow.holds Tryz.pinned (OpenSpec.ofChange checkResultsWrong)

/- THE SECOND FORM. 'bulk': how many values and letters a reading holds, each counted each time it is reached (what is shared counts as often as it is met; a slice's spare places count too). A statement '..UptoSaid' is the law's where the arguments, and the package variables that the reading takes, are together of bulk at most 1048576: NARROWER than '..Said'. Prove '..Said' where nothing that the law and all that it calls make is longer than what came in: it says more and counts as full. Else prove '..UptoSaid'. A law counts once. -/
mutual
def uptoBulk {H : Type} : DataW H → Nat
  | .lit (.string bytes) => bytes.length + 1
  | .lit _ => 1
  | .nil => 1
  | .ptr d => uptoBulk d + 1
  | .slice elems spare => uptoBulkAll elems + uptoBulkAll spare + 1
  | .agg parts => uptoBulkAll parts + 1
  | .iface _ d => uptoBulk d + 1
  | .map entries => uptoBulkEntries entries + 1
  | .held _ => 1
def uptoBulkAll {H : Type} : List (DataW H) → Nat
  | [] => 0
  | d :: r => uptoBulk d + uptoBulkAll r
def uptoBulkEntries {H : Type} : List (Lit × DataW H) → Nat
  | [] => 0
  | x :: r => uptoBulkEntry x + uptoBulkEntries r
def uptoBulkEntry {H : Type} : Lit × DataW H → Nat
  | (.string bytes, d) => bytes.length + uptoBulk d + 1
  | (_, d) => uptoBulk d + 1
 end
def uptoSmall : (H : Type) → List (DataW H) → Bool := fun _ ds => decide (uptoBulkAll ds ≤ 1048576)
def OpenSpec.upto (s : _root_.Go.ChangeSpec) : _root_.Go.OpenSpec := { _root_.Go.OpenSpec.ofChange s with cond := some uptoSmall }

/-- 'avocetlaw10.CheckStep', WHERE WHAT IT READS IS OF BULK AT MOST 1048576: true; the input reads as it did. -/
def checkStepUptoRow : OpenClaim := { program := "ytlappkflnlbfcaagreatdoor", sum := "4c992edab99251243642d69af7dda512d3a2a148f9ebd14f10572b3bce788d00", func := "avocet/avocetlaw10.CheckStep", spec := "checkStep", unfollowed := true, recurses := true, named := ["avocet/instr.kinds", "avocet/instr.accesses"], apart := false, laid := [("avocet/instr.kinds", laid_avocet_instr_kinds), ("avocet/instr.accesses", laid_avocet_instr_accesses)], narrowed := true }
def CheckStepUptoSaid : Prop := checkStepUptoRow.holds Tryz.pinned (OpenSpec.upto checkStepSpec)

/-- 'avocetlaw10.CheckBody', WHERE WHAT IT READS IS OF BULK AT MOST 1048576: true; the input reads as it did. -/
def checkBodyUptoRow : OpenClaim := { program := "ytlappkflnlbfcaagreatdoor", sum := "4c992edab99251243642d69af7dda512d3a2a148f9ebd14f10572b3bce788d00", func := "avocet/avocetlaw10.CheckBody", spec := "checkBody", unfollowed := true, recurses := true, named := ["avocet/instr.kinds", "avocet/instr.accesses"], apart := false, laid := [("avocet/instr.kinds", laid_avocet_instr_kinds), ("avocet/instr.accesses", laid_avocet_instr_accesses)], narrowed := true }
def CheckBodyUptoSaid : Prop := checkBodyUptoRow.holds Tryz.pinned (OpenSpec.upto checkBodySpec)

/-- 'avocetlaw10.CheckLeaves', WHERE WHAT IT READS IS OF BULK AT MOST 1048576: true; the input reads as it did. -/
def checkLeavesUptoRow : OpenClaim := { program := "ytlappkflnlbfcaagreatdoor", sum := "4c992edab99251243642d69af7dda512d3a2a148f9ebd14f10572b3bce788d00", func := "avocet/avocetlaw10.CheckLeaves", spec := "checkLeaves", unfollowed := true, recurses := true, named := ["avocet/instr.kinds", "avocet/instr.accesses"], apart := false, laid := [("avocet/instr.kinds", laid_avocet_instr_kinds), ("avocet/instr.accesses", laid_avocet_instr_accesses)], narrowed := true }
def CheckLeavesUptoSaid : Prop := checkLeavesUptoRow.holds Tryz.pinned (OpenSpec.upto checkLeavesSpec)

/-- 'avocetlaw10.CheckMore', WHERE WHAT IT READS IS OF BULK AT MOST 1048576: true; the input reads as it did. -/
def checkMoreUptoRow : OpenClaim := { program := "ytlappkflnlbfcaagreatdoor", sum := "4c992edab99251243642d69af7dda512d3a2a148f9ebd14f10572b3bce788d00", func := "avocet/avocetlaw10.CheckMore", spec := "checkMore", unfollowed := true, recurses := true, named := ["avocet/instr.kinds", "avocet/instr.accesses"], apart := false, laid := [("avocet/instr.kinds", laid_avocet_instr_kinds), ("avocet/instr.accesses", laid_avocet_instr_accesses)], narrowed := true }
def CheckMoreUptoSaid : Prop := checkMoreUptoRow.holds Tryz.pinned (OpenSpec.upto checkMoreSpec)

/-- 'avocetlaw10.CheckCuts', WHERE WHAT IT READS IS OF BULK AT MOST 1048576: true; the input reads as it did. -/
def checkCutsUptoRow : OpenClaim := { program := "ytlappkflnlbfcaagreatdoor", sum := "4c992edab99251243642d69af7dda512d3a2a148f9ebd14f10572b3bce788d00", func := "avocet/avocetlaw10.CheckCuts", spec := "checkCuts", unfollowed := true, recurses := true, named := ["avocet/instr.kinds", "avocet/instr.accesses"], apart := false, laid := [("avocet/instr.kinds", laid_avocet_instr_kinds), ("avocet/instr.accesses", laid_avocet_instr_accesses)], narrowed := true }
def CheckCutsUptoSaid : Prop := checkCutsUptoRow.holds Tryz.pinned (OpenSpec.upto checkCutsSpec)

/-- 'avocetlaw10.CheckResults', WHERE WHAT IT READS IS OF BULK AT MOST 1048576: true; the input reads as it did. -/
def checkResultsUptoRow : OpenClaim := { program := "ytlappkflnlbfcaagreatdoor", sum := "4c992edab99251243642d69af7dda512d3a2a148f9ebd14f10572b3bce788d00", func := "avocet/avocetlaw10.CheckResults", spec := "checkResults", unfollowed := true, recurses := true, named := ["avocet/instr.kinds", "avocet/instr.accesses"], apart := false, laid := [("avocet/instr.kinds", laid_avocet_instr_kinds), ("avocet/instr.accesses", laid_avocet_instr_accesses)], narrowed := true }
def CheckResultsUptoSaid : Prop := checkResultsUptoRow.holds Tryz.pinned (OpenSpec.upto checkResultsSpec)

end Rows
end Go.Proofs.YtlappkflnlbfcaaGreatDoor
