/-
  DERIVED. GIVEN WITH THE SEED: THE CARDS: each row of YtffegkjlgeblbaaGreatDoorRows.lean that lists a variable, with what it lists TIED to the program's text (the seventh form; the later family's looks); each row that meets fmt, with fmt's text TOLD by the authors' own Lean function (tested against real Go, not proved from fmt's source: count such statements apart). THE CARD IS WHAT COUNTS. Prove the row's statement (the work); the ties are given (YtffegkjlgeblbaaGreatDoorTie.lean); close each card by the builder's one call (the guide's Derived/Test/ToyasCard.lean, 'card_holds'). Laid BY PROGRAM, IN A SANDBOX (cutbox-door.mjs). By AI agents, Wed Nov 11 2026. No macro, syntax, notation, axiom, sorry.
-/
import Derived.Test.YtffegkjlgeblbaaGreatDoorRows
import GoSem.ClaimSeven
namespace Go.Proofs.YtffegkjlgeblbaaGreatDoor
namespace Rows

/-- THE TIED CARD OF 'avocetlaw08.ModuleReads'. -/
def moduleReadsCard : Claim7 := { stood := { row := moduleReadsRow, standIns := [], harness := (true, "f03804ed9076cb5dc443d0e377270be43c825f08702af0495e7f02ca0ee61777"), looks := true }, kinds := [], alts := [], laidByText := true, laidKinds := [.data], laidTests := true, laidLooks := .later }
def ModuleReadsCardSaid : Prop := Claim7.holds Tryz.pinned (.plain (OpenSpec.ofChange moduleReadsSpec)) moduleReadsCard

/-- THE TIED CARD OF 'avocetlaw08.ModuleLays'. -/
def moduleLaysCard : Claim7 := { stood := { row := moduleLaysRow, standIns := [], harness := (true, "f03804ed9076cb5dc443d0e377270be43c825f08702af0495e7f02ca0ee61777"), looks := true }, kinds := [], alts := [], laidByText := true, laidKinds := [.data], laidTests := true, laidLooks := .later }
def ModuleLaysCardSaid : Prop := Claim7.holds Tryz.pinned (.plain (OpenSpec.ofChange moduleLaysSpec)) moduleLaysCard

/-- THE TIED CARD OF 'avocetlaw08.ModuleBack'. -/
def moduleBackCard : Claim7 := { stood := { row := moduleBackRow, standIns := [], harness := (true, "f03804ed9076cb5dc443d0e377270be43c825f08702af0495e7f02ca0ee61777"), looks := true }, kinds := [], alts := [], laidByText := true, laidKinds := [.data], laidTests := true, laidLooks := .later }
def ModuleBackCardSaid : Prop := Claim7.holds Tryz.pinned (.plain (OpenSpec.ofChange moduleBackSpec)) moduleBackCard

/-- THE TIED CARD OF 'avocetlaw08.ModuleTold'. -/
def moduleToldCard : Claim7 := { stood := { row := moduleToldRow, standIns := [], harness := (true, "f03804ed9076cb5dc443d0e377270be43c825f08702af0495e7f02ca0ee61777"), looks := true }, kinds := [], alts := [], laidByText := true, laidKinds := [.data], laidTests := true, laidLooks := .later }
def ModuleToldCardSaid : Prop := Claim7.holds Tryz.pinned (.plain (OpenSpec.ofChange moduleToldSpec)) moduleToldCard

/-- THE TIED CARD OF 'avocetlaw08.ModuleShort'. -/
def moduleShortCard : Claim7 := { stood := { row := moduleShortRow, standIns := [], harness := (true, "f03804ed9076cb5dc443d0e377270be43c825f08702af0495e7f02ca0ee61777"), looks := true }, kinds := [], alts := [], laidByText := true, laidKinds := [.data], laidTests := true, laidLooks := .later }
def ModuleShortCardSaid : Prop := Claim7.holds Tryz.pinned (.plain (OpenSpec.ofChange moduleShortSpec)) moduleShortCard

/-- THE TIED CARD OF 'avocetlaw08.ModuleRuns'. -/
def moduleRunsCard : Claim7 := { stood := { row := moduleRunsRow, standIns := [], harness := (true, "f03804ed9076cb5dc443d0e377270be43c825f08702af0495e7f02ca0ee61777"), looks := true }, kinds := [], alts := [], laidByText := true, laidKinds := [.data], laidTests := true, laidLooks := .later }
def ModuleRunsCardSaid : Prop := Claim7.holds Tryz.pinned (.plain (OpenSpec.ofChange moduleRunsSpec)) moduleRunsCard

/-- THE TIED CARD OF 'avocetlaw08.ModuleSame'. -/
def moduleSameCard : Claim7 := { stood := { row := moduleSameRow, standIns := [], harness := (true, "f03804ed9076cb5dc443d0e377270be43c825f08702af0495e7f02ca0ee61777"), looks := true }, kinds := [], alts := [], laidByText := true, laidKinds := [.data], laidTests := true, laidLooks := .later }
def ModuleSameCardSaid : Prop := Claim7.holds Tryz.pinned (.plain (OpenSpec.ofChange moduleSameSpec)) moduleSameCard

/-- THE TIED CARD OF 'avocetlaw08.ModuleLimits'. -/
def moduleLimitsCard : Claim7 := { stood := { row := moduleLimitsRow, standIns := [], harness := (true, "f03804ed9076cb5dc443d0e377270be43c825f08702af0495e7f02ca0ee61777"), looks := true }, kinds := [], alts := [], laidByText := true, laidKinds := [.data], laidTests := true, laidLooks := .later }
def ModuleLimitsCardSaid : Prop := Claim7.holds Tryz.pinned (.plain (OpenSpec.ofChange moduleLimitsSpec)) moduleLimitsCard

/-- THE SECOND FORM's CARD OF 'avocetlaw08.ModuleReads'. -/
def moduleReadsUptoCard : Claim7 := { stood := { row := moduleReadsUptoRow, standIns := [], harness := (true, "f03804ed9076cb5dc443d0e377270be43c825f08702af0495e7f02ca0ee61777"), looks := true }, kinds := [], alts := [], laidByText := true, laidKinds := [.data], laidTests := true, laidLooks := .later }
def ModuleReadsUptoCardSaid : Prop := Claim7.holds Tryz.pinned (.plain (OpenSpec.upto moduleReadsSpec)) moduleReadsUptoCard

/-- THE SECOND FORM's CARD OF 'avocetlaw08.ModuleLays'. -/
def moduleLaysUptoCard : Claim7 := { stood := { row := moduleLaysUptoRow, standIns := [], harness := (true, "f03804ed9076cb5dc443d0e377270be43c825f08702af0495e7f02ca0ee61777"), looks := true }, kinds := [], alts := [], laidByText := true, laidKinds := [.data], laidTests := true, laidLooks := .later }
def ModuleLaysUptoCardSaid : Prop := Claim7.holds Tryz.pinned (.plain (OpenSpec.upto moduleLaysSpec)) moduleLaysUptoCard

/-- THE SECOND FORM's CARD OF 'avocetlaw08.ModuleBack'. -/
def moduleBackUptoCard : Claim7 := { stood := { row := moduleBackUptoRow, standIns := [], harness := (true, "f03804ed9076cb5dc443d0e377270be43c825f08702af0495e7f02ca0ee61777"), looks := true }, kinds := [], alts := [], laidByText := true, laidKinds := [.data], laidTests := true, laidLooks := .later }
def ModuleBackUptoCardSaid : Prop := Claim7.holds Tryz.pinned (.plain (OpenSpec.upto moduleBackSpec)) moduleBackUptoCard

/-- THE SECOND FORM's CARD OF 'avocetlaw08.ModuleTold'. -/
def moduleToldUptoCard : Claim7 := { stood := { row := moduleToldUptoRow, standIns := [], harness := (true, "f03804ed9076cb5dc443d0e377270be43c825f08702af0495e7f02ca0ee61777"), looks := true }, kinds := [], alts := [], laidByText := true, laidKinds := [.data], laidTests := true, laidLooks := .later }
def ModuleToldUptoCardSaid : Prop := Claim7.holds Tryz.pinned (.plain (OpenSpec.upto moduleToldSpec)) moduleToldUptoCard

/-- THE SECOND FORM's CARD OF 'avocetlaw08.ModuleShort'. -/
def moduleShortUptoCard : Claim7 := { stood := { row := moduleShortUptoRow, standIns := [], harness := (true, "f03804ed9076cb5dc443d0e377270be43c825f08702af0495e7f02ca0ee61777"), looks := true }, kinds := [], alts := [], laidByText := true, laidKinds := [.data], laidTests := true, laidLooks := .later }
def ModuleShortUptoCardSaid : Prop := Claim7.holds Tryz.pinned (.plain (OpenSpec.upto moduleShortSpec)) moduleShortUptoCard

/-- THE SECOND FORM's CARD OF 'avocetlaw08.ModuleRuns'. -/
def moduleRunsUptoCard : Claim7 := { stood := { row := moduleRunsUptoRow, standIns := [], harness := (true, "f03804ed9076cb5dc443d0e377270be43c825f08702af0495e7f02ca0ee61777"), looks := true }, kinds := [], alts := [], laidByText := true, laidKinds := [.data], laidTests := true, laidLooks := .later }
def ModuleRunsUptoCardSaid : Prop := Claim7.holds Tryz.pinned (.plain (OpenSpec.upto moduleRunsSpec)) moduleRunsUptoCard

/-- THE SECOND FORM's CARD OF 'avocetlaw08.ModuleSame'. -/
def moduleSameUptoCard : Claim7 := { stood := { row := moduleSameUptoRow, standIns := [], harness := (true, "f03804ed9076cb5dc443d0e377270be43c825f08702af0495e7f02ca0ee61777"), looks := true }, kinds := [], alts := [], laidByText := true, laidKinds := [.data], laidTests := true, laidLooks := .later }
def ModuleSameUptoCardSaid : Prop := Claim7.holds Tryz.pinned (.plain (OpenSpec.upto moduleSameSpec)) moduleSameUptoCard

/-- THE SECOND FORM's CARD OF 'avocetlaw08.ModuleLimits'. -/
def moduleLimitsUptoCard : Claim7 := { stood := { row := moduleLimitsUptoRow, standIns := [], harness := (true, "f03804ed9076cb5dc443d0e377270be43c825f08702af0495e7f02ca0ee61777"), looks := true }, kinds := [], alts := [], laidByText := true, laidKinds := [.data], laidTests := true, laidLooks := .later }
def ModuleLimitsUptoCardSaid : Prop := Claim7.holds Tryz.pinned (.plain (OpenSpec.upto moduleLimitsSpec)) moduleLimitsUptoCard
end Rows
end Go.Proofs.YtffegkjlgeblbaaGreatDoor
