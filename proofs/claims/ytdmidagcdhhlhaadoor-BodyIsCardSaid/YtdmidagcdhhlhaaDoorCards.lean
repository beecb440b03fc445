/-
  DERIVED. GIVEN WITH THE SEED: THE CARDS: each row of YtdmidagcdhhlhaaDoorRows.lean that lists a variable, with what it lists TIED to the program's text (the seventh form; the later family's looks); each row that meets fmt, with fmt's text TOLD by the authors' own Lean function (tested against real Go, not proved from fmt's source: count such statements apart). THE CARD IS WHAT COUNTS. Prove the row's statement (the work); the ties are given (YtdmidagcdhhlhaaDoorTie.lean); close each card by the builder's one call (the guide's Derived/Test/ToyasCard.lean, 'card_holds'). Laid BY PROGRAM, IN A SANDBOX (cutbox-door.mjs). By AI agents, Wed Nov 11 2026. No macro, syntax, notation, axiom, sorry.
-/
import Derived.Test.YtdmidagcdhhlhaaDoorRows
import GoSem.ClaimSeven
namespace Go.Proofs.YtdmidagcdhhlhaaDoor
namespace Rows

/-- THE TIED CARD OF 'avocetlaw06.BodyIs'. -/
def bodyIsCard : Claim7 := { stood := { row := bodyIsRow, standIns := [], harness := (true, "8ea9aaf8988fff0d02917e0c398e8761e4694c0184ee1b6cc73112f16688f682"), looks := false }, kinds := [], alts := [], laidByText := true, laidKinds := [.data], laidTests := true, laidLooks := .later }
def BodyIsCardSaid : Prop := Claim7.holds Tryd.pinned (.plain (OpenSpec.ofChange bodyIsSpec)) bodyIsCard

/-- THE TIED CARD OF 'avocetlaw06.BodyBack'. -/
def bodyBackCard : Claim7 := { stood := { row := bodyBackRow, standIns := [], harness := (true, "8ea9aaf8988fff0d02917e0c398e8761e4694c0184ee1b6cc73112f16688f682"), looks := false }, kinds := [], alts := [], laidByText := true, laidKinds := [.data], laidTests := true, laidLooks := .later }
def BodyBackCardSaid : Prop := Claim7.holds Tryd.pinned (.plain (OpenSpec.ofChange bodyBackSpec)) bodyBackCard

/-- THE TIED CARD OF 'avocetlaw06.BodyNests'. -/
def bodyNestsCard : Claim7 := { stood := { row := bodyNestsRow, standIns := [], harness := (true, "8ea9aaf8988fff0d02917e0c398e8761e4694c0184ee1b6cc73112f16688f682"), looks := false }, kinds := [], alts := [], laidByText := true, laidKinds := [.data], laidTests := true, laidLooks := .later }
def BodyNestsCardSaid : Prop := Claim7.holds Tryd.pinned (.plain (OpenSpec.ofChange bodyNestsSpec)) bodyNestsCard

/-- THE TIED CARD OF 'avocetlaw06.BodyTargets'. -/
def bodyTargetsCard : Claim7 := { stood := { row := bodyTargetsRow, standIns := [], harness := (true, "8ea9aaf8988fff0d02917e0c398e8761e4694c0184ee1b6cc73112f16688f682"), looks := false }, kinds := [], alts := [], laidByText := true, laidKinds := [.data], laidTests := true, laidLooks := .later }
def BodyTargetsCardSaid : Prop := Claim7.holds Tryd.pinned (.plain (OpenSpec.ofChange bodyTargetsSpec)) bodyTargetsCard

/-- THE TIED CARD OF 'avocetlaw06.BodyDeeper'. -/
def bodyDeeperCard : Claim7 := { stood := { row := bodyDeeperRow, standIns := [], harness := (true, "8ea9aaf8988fff0d02917e0c398e8761e4694c0184ee1b6cc73112f16688f682"), looks := false }, kinds := [], alts := [], laidByText := true, laidKinds := [.data], laidTests := true, laidLooks := .later }
def BodyDeeperCardSaid : Prop := Claim7.holds Tryd.pinned (.plain (OpenSpec.ofChange bodyDeeperSpec)) bodyDeeperCard

/-- THE TIED CARD OF 'avocetlaw06.BodyRows'. -/
def bodyRowsCard : Claim7 := { stood := { row := bodyRowsRow, standIns := [], harness := (true, "8ea9aaf8988fff0d02917e0c398e8761e4694c0184ee1b6cc73112f16688f682"), looks := false }, kinds := [], alts := [], laidByText := true, laidKinds := [.data], laidTests := true, laidLooks := .later }
def BodyRowsCardSaid : Prop := Claim7.holds Tryd.pinned (.plain (OpenSpec.ofChange bodyRowsSpec)) bodyRowsCard

/-- THE SECOND FORM's CARD OF 'avocetlaw06.BodyIs'. -/
def bodyIsUptoCard : Claim7 := { stood := { row := bodyIsUptoRow, standIns := [], harness := (true, "8ea9aaf8988fff0d02917e0c398e8761e4694c0184ee1b6cc73112f16688f682"), looks := false }, kinds := [], alts := [], laidByText := true, laidKinds := [.data], laidTests := true, laidLooks := .later }
def BodyIsUptoCardSaid : Prop := Claim7.holds Tryd.pinned (.plain (OpenSpec.upto bodyIsSpec)) bodyIsUptoCard

/-- THE SECOND FORM's CARD OF 'avocetlaw06.BodyBack'. -/
def bodyBackUptoCard : Claim7 := { stood := { row := bodyBackUptoRow, standIns := [], harness := (true, "8ea9aaf8988fff0d02917e0c398e8761e4694c0184ee1b6cc73112f16688f682"), looks := false }, kinds := [], alts := [], laidByText := true, laidKinds := [.data], laidTests := true, laidLooks := .later }
def BodyBackUptoCardSaid : Prop := Claim7.holds Tryd.pinned (.plain (OpenSpec.upto bodyBackSpec)) bodyBackUptoCard

/-- THE SECOND FORM's CARD OF 'avocetlaw06.BodyNests'. -/
def bodyNestsUptoCard : Claim7 := { stood := { row := bodyNestsUptoRow, standIns := [], harness := (true, "8ea9aaf8988fff0d02917e0c398e8761e4694c0184ee1b6cc73112f16688f682"), looks := false }, kinds := [], alts := [], laidByText := true, laidKinds := [.data], laidTests := true, laidLooks := .later }
def BodyNestsUptoCardSaid : Prop := Claim7.holds Tryd.pinned (.plain (OpenSpec.upto bodyNestsSpec)) bodyNestsUptoCard

/-- THE SECOND FORM's CARD OF 'avocetlaw06.BodyTargets'. -/
def bodyTargetsUptoCard : Claim7 := { stood := { row := bodyTargetsUptoRow, standIns := [], harness := (true, "8ea9aaf8988fff0d02917e0c398e8761e4694c0184ee1b6cc73112f16688f682"), looks := false }, kinds := [], alts := [], laidByText := true, laidKinds := [.data], laidTests := true, laidLooks := .later }
def BodyTargetsUptoCardSaid : Prop := Claim7.holds Tryd.pinned (.plain (OpenSpec.upto bodyTargetsSpec)) bodyTargetsUptoCard

/-- THE SECOND FORM's CARD OF 'avocetlaw06.BodyDeeper'. -/
def bodyDeeperUptoCard : Claim7 := { stood := { row := bodyDeeperUptoRow, standIns := [], harness := (true, "8ea9aaf8988fff0d02917e0c398e8761e4694c0184ee1b6cc73112f16688f682"), looks := false }, kinds := [], alts := [], laidByText := true, laidKinds := [.data], laidTests := true, laidLooks := .later }
def BodyDeeperUptoCardSaid : Prop := Claim7.holds Tryd.pinned (.plain (OpenSpec.upto bodyDeeperSpec)) bodyDeeperUptoCard

/-- THE SECOND FORM's CARD OF 'avocetlaw06.BodyRows'. -/
def bodyRowsUptoCard : Claim7 := { stood := { row := bodyRowsUptoRow, standIns := [], harness := (true, "8ea9aaf8988fff0d02917e0c398e8761e4694c0184ee1b6cc73112f16688f682"), looks := false }, kinds := [], alts := [], laidByText := true, laidKinds := [.data], laidTests := true, laidLooks := .later }
def BodyRowsUptoCardSaid : Prop := Claim7.holds Tryd.pinned (.plain (OpenSpec.upto bodyRowsSpec)) bodyRowsUptoCard
end Rows
end Go.Proofs.YtdmidagcdhhlhaaDoor
