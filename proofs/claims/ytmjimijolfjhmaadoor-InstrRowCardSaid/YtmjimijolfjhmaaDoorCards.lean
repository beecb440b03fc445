/-
  DERIVED. GIVEN WITH THE SEED: THE CARDS: each row of YtmjimijolfjhmaaDoorRows.lean that lists a variable, with what it lists TIED to the program's text (the seventh form; the later family's looks); each row that meets fmt, with fmt's text TOLD by the authors' own Lean function (tested against real Go, not proved from fmt's source: count such statements apart). THE CARD IS WHAT COUNTS. Prove the row's statement (the work); the ties are given (YtmjimijolfjhmaaDoorTie.lean); close each card by the builder's one call (the guide's Derived/Test/ToyasCard.lean, 'card_holds'). Laid BY PROGRAM, IN A SANDBOX (cutbox-door.mjs). By AI agents, Wed Nov 11 2026. No macro, syntax, notation, axiom, sorry.
-/
import Derived.Test.YtmjimijolfjhmaaDoorRows
import GoSem.ClaimSeven
namespace Go.Proofs.YtmjimijolfjhmaaDoor
namespace Rows

/-- THE TIED CARD OF 'avocetlaw05.InstrIs'. -/
def instrIsCard : Claim7 := { stood := { row := instrIsRow, standIns := [], harness := (true, "18b6011a1447949605bc7f3438b0c67aade0d3e4d695f2f53a2c877c750259a6"), looks := false }, kinds := [], alts := [], laidByText := true, laidKinds := [.data, .data], laidTests := true, laidLooks := .later }
def InstrIsCardSaid : Prop := Claim7.holds Tryd.pinned (.plain (OpenSpec.ofChange instrIsSpec)) instrIsCard

/-- THE TIED CARD OF 'avocetlaw05.InstrBack'. -/
def instrBackCard : Claim7 := { stood := { row := instrBackRow, standIns := [], harness := (true, "18b6011a1447949605bc7f3438b0c67aade0d3e4d695f2f53a2c877c750259a6"), looks := false }, kinds := [], alts := [], laidByText := true, laidKinds := [.data], laidTests := true, laidLooks := .later }
def InstrBackCardSaid : Prop := Claim7.holds Tryd.pinned (.plain (OpenSpec.ofChange instrBackSpec)) instrBackCard

/-- THE TIED CARD OF 'avocetlaw05.InstrTold'. -/
def instrToldCard : Claim7 := { stood := { row := instrToldRow, standIns := [], harness := (true, "18b6011a1447949605bc7f3438b0c67aade0d3e4d695f2f53a2c877c750259a6"), looks := false }, kinds := [], alts := [], laidByText := true, laidKinds := [.data], laidTests := true, laidLooks := .later }
def InstrToldCardSaid : Prop := Claim7.holds Tryd.pinned (.plain (OpenSpec.ofChange instrToldSpec)) instrToldCard

/-- THE TIED CARD OF 'avocetlaw05.InstrOps'. -/
def instrOpsCard : Claim7 := { stood := { row := instrOpsRow, standIns := [], harness := (true, "18b6011a1447949605bc7f3438b0c67aade0d3e4d695f2f53a2c877c750259a6"), looks := false }, kinds := [], alts := [], laidByText := true, laidKinds := [.data, .data], laidTests := true, laidLooks := .later }
def InstrOpsCardSaid : Prop := Claim7.holds Tryd.pinned (.plain (OpenSpec.ofChange instrOpsSpec)) instrOpsCard

/-- THE TIED CARD OF 'avocetlaw05.InstrRow'. -/
def instrRowCard : Claim7 := { stood := { row := instrRowRow, standIns := [], harness := (true, "18b6011a1447949605bc7f3438b0c67aade0d3e4d695f2f53a2c877c750259a6"), looks := false }, kinds := [], alts := [], laidByText := true, laidKinds := [.data], laidTests := true, laidLooks := .later }
def InstrRowCardSaid : Prop := Claim7.holds Tryd.pinned (.plain (OpenSpec.ofChange instrRowSpec)) instrRowCard

/-- THE TIED CARD OF 'avocetlaw05.InstrSame'. -/
def instrSameCard : Claim7 := { stood := { row := instrSameRow, standIns := [], harness := (true, "18b6011a1447949605bc7f3438b0c67aade0d3e4d695f2f53a2c877c750259a6"), looks := false }, kinds := [], alts := [], laidByText := true, laidKinds := [.data], laidTests := true, laidLooks := .later }
def InstrSameCardSaid : Prop := Claim7.holds Tryd.pinned (.plain (OpenSpec.ofChange instrSameSpec)) instrSameCard

/-- THE SECOND FORM's CARD OF 'avocetlaw05.InstrIs'. -/
def instrIsUptoCard : Claim7 := { stood := { row := instrIsUptoRow, standIns := [], harness := (true, "18b6011a1447949605bc7f3438b0c67aade0d3e4d695f2f53a2c877c750259a6"), looks := false }, kinds := [], alts := [], laidByText := true, laidKinds := [.data, .data], laidTests := true, laidLooks := .later }
def InstrIsUptoCardSaid : Prop := Claim7.holds Tryd.pinned (.plain (OpenSpec.upto instrIsSpec)) instrIsUptoCard

/-- THE SECOND FORM's CARD OF 'avocetlaw05.InstrBack'. -/
def instrBackUptoCard : Claim7 := { stood := { row := instrBackUptoRow, standIns := [], harness := (true, "18b6011a1447949605bc7f3438b0c67aade0d3e4d695f2f53a2c877c750259a6"), looks := false }, kinds := [], alts := [], laidByText := true, laidKinds := [.data], laidTests := true, laidLooks := .later }
def InstrBackUptoCardSaid : Prop := Claim7.holds Tryd.pinned (.plain (OpenSpec.upto instrBackSpec)) instrBackUptoCard

/-- THE SECOND FORM's CARD OF 'avocetlaw05.InstrTold'. -/
def instrToldUptoCard : Claim7 := { stood := { row := instrToldUptoRow, standIns := [], harness := (true, "18b6011a1447949605bc7f3438b0c67aade0d3e4d695f2f53a2c877c750259a6"), looks := false }, kinds := [], alts := [], laidByText := true, laidKinds := [.data], laidTests := true, laidLooks := .later }
def InstrToldUptoCardSaid : Prop := Claim7.holds Tryd.pinned (.plain (OpenSpec.upto instrToldSpec)) instrToldUptoCard

/-- THE SECOND FORM's CARD OF 'avocetlaw05.InstrOps'. -/
def instrOpsUptoCard : Claim7 := { stood := { row := instrOpsUptoRow, standIns := [], harness := (true, "18b6011a1447949605bc7f3438b0c67aade0d3e4d695f2f53a2c877c750259a6"), looks := false }, kinds := [], alts := [], laidByText := true, laidKinds := [.data, .data], laidTests := true, laidLooks := .later }
def InstrOpsUptoCardSaid : Prop := Claim7.holds Tryd.pinned (.plain (OpenSpec.upto instrOpsSpec)) instrOpsUptoCard

/-- THE SECOND FORM's CARD OF 'avocetlaw05.InstrRow'. -/
def instrRowUptoCard : Claim7 := { stood := { row := instrRowUptoRow, standIns := [], harness := (true, "18b6011a1447949605bc7f3438b0c67aade0d3e4d695f2f53a2c877c750259a6"), looks := false }, kinds := [], alts := [], laidByText := true, laidKinds := [.data], laidTests := true, laidLooks := .later }
def InstrRowUptoCardSaid : Prop := Claim7.holds Tryd.pinned (.plain (OpenSpec.upto instrRowSpec)) instrRowUptoCard

/-- THE SECOND FORM's CARD OF 'avocetlaw05.InstrSame'. -/
def instrSameUptoCard : Claim7 := { stood := { row := instrSameUptoRow, standIns := [], harness := (true, "18b6011a1447949605bc7f3438b0c67aade0d3e4d695f2f53a2c877c750259a6"), looks := false }, kinds := [], alts := [], laidByText := true, laidKinds := [.data], laidTests := true, laidLooks := .later }
def InstrSameUptoCardSaid : Prop := Claim7.holds Tryd.pinned (.plain (OpenSpec.upto instrSameSpec)) instrSameUptoCard
end Rows
end Go.Proofs.YtmjimijolfjhmaaDoor
