/-
  DERIVED. GIVEN WITH THE SEED: THE CARDS: each row of YtlappkflnlbfcaaGreatDoorRows.lean that lists a variable, with what it lists TIED to the program's text (the seventh form; the later family's looks); each row that meets fmt, with fmt's text TOLD by the authors' own Lean function (tested against real Go, not proved from fmt's source: count such statements apart). THE CARD IS WHAT COUNTS. Prove the row's statement (the work); the ties are given (YtlappkflnlbfcaaGreatDoorTie.lean); close each card by the builder's one call (the guide's Derived/Test/ToyasCard.lean, 'card_holds'). Laid BY PROGRAM, IN A SANDBOX (cutbox-door.mjs). By AI agents, Wed Nov 11 2026. No macro, syntax, notation, axiom, sorry.
-/
import Derived.Test.YtlappkflnlbfcaaGreatDoorRows
import GoSem.ClaimSeven
namespace Go.Proofs.YtlappkflnlbfcaaGreatDoor
namespace Rows

/-- THE TIED CARD OF 'avocetlaw10.CheckStep'. -/
def checkStepCard : Claim7 := { stood := { row := checkStepRow, standIns := [], harness := (true, "5dfd9e52e4fa129a65a02818f6547869481c10271e03754196a94cf3316dc737"), looks := false }, kinds := [], alts := [], laidByText := true, laidKinds := [.data, .data], laidTests := true, laidLooks := .later }
def CheckStepCardSaid : Prop := Claim7.holds Tryz.pinned (.plain (OpenSpec.ofChange checkStepSpec)) checkStepCard

/-- THE TIED CARD OF 'avocetlaw10.CheckBody'. -/
def checkBodyCard : Claim7 := { stood := { row := checkBodyRow, standIns := [], harness := (true, "5dfd9e52e4fa129a65a02818f6547869481c10271e03754196a94cf3316dc737"), looks := false }, kinds := [], alts := [], laidByText := true, laidKinds := [.data, .data], laidTests := true, laidLooks := .later }
def CheckBodyCardSaid : Prop := Claim7.holds Tryz.pinned (.plain (OpenSpec.ofChange checkBodySpec)) checkBodyCard

/-- THE TIED CARD OF 'avocetlaw10.CheckLeaves'. -/
def checkLeavesCard : Claim7 := { stood := { row := checkLeavesRow, standIns := [], harness := (true, "5dfd9e52e4fa129a65a02818f6547869481c10271e03754196a94cf3316dc737"), looks := false }, kinds := [], alts := [], laidByText := true, laidKinds := [.data, .data], laidTests := true, laidLooks := .later }
def CheckLeavesCardSaid : Prop := Claim7.holds Tryz.pinned (.plain (OpenSpec.ofChange checkLeavesSpec)) checkLeavesCard

/-- THE TIED CARD OF 'avocetlaw10.CheckMore'. -/
def checkMoreCard : Claim7 := { stood := { row := checkMoreRow, standIns := [], harness := (true, "5dfd9e52e4fa129a65a02818f6547869481c10271e03754196a94cf3316dc737"), looks := false }, kinds := [], alts := [], laidByText := true, laidKinds := [.data, .data], laidTests := true, laidLooks := .later }
def CheckMoreCardSaid : Prop := Claim7.holds Tryz.pinned (.plain (OpenSpec.ofChange checkMoreSpec)) checkMoreCard

/-- THE TIED CARD OF 'avocetlaw10.CheckCuts'. -/
def checkCutsCard : Claim7 := { stood := { row := checkCutsRow, standIns := [], harness := (true, "5dfd9e52e4fa129a65a02818f6547869481c10271e03754196a94cf3316dc737"), looks := false }, kinds := [], alts := [], laidByText := true, laidKinds := [.data, .data], laidTests := true, laidLooks := .later }
def CheckCutsCardSaid : Prop := Claim7.holds Tryz.pinned (.plain (OpenSpec.ofChange checkCutsSpec)) checkCutsCard

/-- THE TIED CARD OF 'avocetlaw10.CheckResults'. -/
def checkResultsCard : Claim7 := { stood := { row := checkResultsRow, standIns := [], harness := (true, "5dfd9e52e4fa129a65a02818f6547869481c10271e03754196a94cf3316dc737"), looks := false }, kinds := [], alts := [], laidByText := true, laidKinds := [.data, .data], laidTests := true, laidLooks := .later }
def CheckResultsCardSaid : Prop := Claim7.holds Tryz.pinned (.plain (OpenSpec.ofChange checkResultsSpec)) checkResultsCard

/-- THE SECOND FORM's CARD OF 'avocetlaw10.CheckStep'. -/
def checkStepUptoCard : Claim7 := { stood := { row := checkStepUptoRow, standIns := [], harness := (true, "5dfd9e52e4fa129a65a02818f6547869481c10271e03754196a94cf3316dc737"), looks := false }, kinds := [], alts := [], laidByText := true, laidKinds := [.data, .data], laidTests := true, laidLooks := .later }
def CheckStepUptoCardSaid : Prop := Claim7.holds Tryz.pinned (.plain (OpenSpec.upto checkStepSpec)) checkStepUptoCard

/-- THE SECOND FORM's CARD OF 'avocetlaw10.CheckBody'. -/
def checkBodyUptoCard : Claim7 := { stood := { row := checkBodyUptoRow, standIns := [], harness := (true, "5dfd9e52e4fa129a65a02818f6547869481c10271e03754196a94cf3316dc737"), looks := false }, kinds := [], alts := [], laidByText := true, laidKinds := [.data, .data], laidTests := true, laidLooks := .later }
def CheckBodyUptoCardSaid : Prop := Claim7.holds Tryz.pinned (.plain (OpenSpec.upto checkBodySpec)) checkBodyUptoCard

/-- THE SECOND FORM's CARD OF 'avocetlaw10.CheckLeaves'. -/
def checkLeavesUptoCard : Claim7 := { stood := { row := checkLeavesUptoRow, standIns := [], harness := (true, "5dfd9e52e4fa129a65a02818f6547869481c10271e03754196a94cf3316dc737"), looks := false }, kinds := [], alts := [], laidByText := true, laidKinds := [.data, .data], laidTests := true, laidLooks := .later }
def CheckLeavesUptoCardSaid : Prop := Claim7.holds Tryz.pinned (.plain (OpenSpec.upto checkLeavesSpec)) checkLeavesUptoCard

/-- THE SECOND FORM's CARD OF 'avocetlaw10.CheckMore'. -/
def checkMoreUptoCard : Claim7 := { stood := { row := checkMoreUptoRow, standIns := [], harness := (true, "5dfd9e52e4fa129a65a02818f6547869481c10271e03754196a94cf3316dc737"), looks := false }, kinds := [], alts := [], laidByText := true, laidKinds := [.data, .data], laidTests := true, laidLooks := .later }
def CheckMoreUptoCardSaid : Prop := Claim7.holds Tryz.pinned (.plain (OpenSpec.upto checkMoreSpec)) checkMoreUptoCard

/-- THE SECOND FORM's CARD OF 'avocetlaw10.CheckCuts'. -/
def checkCutsUptoCard : Claim7 := { stood := { row := checkCutsUptoRow, standIns := [], harness := (true, "5dfd9e52e4fa129a65a02818f6547869481c10271e03754196a94cf3316dc737"), looks := false }, kinds := [], alts := [], laidByText := true, laidKinds := [.data, .data], laidTests := true, laidLooks := .later }
def CheckCutsUptoCardSaid : Prop := Claim7.holds Tryz.pinned (.plain (OpenSpec.upto checkCutsSpec)) checkCutsUptoCard

/-- THE SECOND FORM's CARD OF 'avocetlaw10.CheckResults'. -/
def checkResultsUptoCard : Claim7 := { stood := { row := checkResultsUptoRow, standIns := [], harness := (true, "5dfd9e52e4fa129a65a02818f6547869481c10271e03754196a94cf3316dc737"), looks := false }, kinds := [], alts := [], laidByText := true, laidKinds := [.data, .data], laidTests := true, laidLooks := .later }
def CheckResultsUptoCardSaid : Prop := Claim7.holds Tryz.pinned (.plain (OpenSpec.upto checkResultsSpec)) checkResultsUptoCard
end Rows
end Go.Proofs.YtlappkflnlbfcaaGreatDoor
