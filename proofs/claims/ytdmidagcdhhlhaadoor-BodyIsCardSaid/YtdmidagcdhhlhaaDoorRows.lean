/-
  NARROWER THAN 'FOR EVERY INPUT', by the rows' own cells (each row's printed sentence says how): BodyIs: laid · BodyBack: laid · BodyNests: laid · BodyTargets: laid · BodyDeeper: laid · BodyRows: laid.
  DERIVED. THE GIVEN ROWS OF THIS SEAT. 6 by the template 'for every input the law returns true; each argument reads behind the call as it read before'; 0 by the template 'total and deterministic' (their statements: YtdmidagcdhhlhaaDoorTotals.lean).
  GIVEN WITH THE SEED: the statements are not yours to turn. If you find one false, say at which input.
  Laid BY PROGRAM, IN A SANDBOX (cutbox-rows.mjs): the forced cells as the released guide's own fill.sh prints them over the translation 17182837f5dffad9… (all of the seat's roots in one cut). By AI agents, Wed Nov 11 2026. No macro, syntax, notation, axiom, sorry.
-/
import Derived.Test.YtdmidagcdhhlhaaDoorChecked
import GoSem.Claim
import GoSem.ClaimJoined
import GoSem.ClaimMapViews
import Derived.JoinedTies
import Derived.KernelRfl
namespace Go.Proofs.YtdmidagcdhhlhaaDoor
/- THE CELL 'sum', in the pinned program and in every row, IS THE sha256 OF THE DUMP (.gsa) THAT YtdmidagcdhhlhaaDoorProg.lean LOADS. Nothing in Lean hashes anything: it is a label: what it is worth is what the hold of that sum in a sandbox is worth. -/
noncomputable def Tryd.pinned : Pinned := { name := "ytdmidagcdhhlhaadoor", sum := "17182837f5dffad96392416694ad24cc12e552e44d1ca44f5c2c9ae4374f137d", checked := Tryd.checked }
namespace Rows
def none {H : Type} : Left H := { results := [], args := [] }

/- WHAT THE LISTED PACKAGE-LEVEL VARIABLES READ AS WHEN THE CALL BEGINS. Each datum BY PROGRAM (the guide's laid-datum.mjs) off the statement by which the dump's own 'gosem.cut.vars' lays the variable. In a bare row this is a premise. The card (YtdmidagcdhhlhaaDoorCards.lean) ties it to the program's text. -/
def laid_avocet_instr_kinds {H : Type} : DataW H := .agg [.lit (.int .u8 1), .lit (.int .u8 1), .lit (.int .u8 2), .lit (.int .u8 2), .lit (.int .u8 2), .lit (.int .u8 1), .lit (.int .u8 0), .lit (.int .u8 0), .lit (.int .u8 0), .lit (.int .u8 0), .lit (.int .u8 0), .lit (.int .u8 1), .lit (.int .u8 3), .lit (.int .u8 3), .lit (.int .u8 4), .lit (.int .u8 1), .lit (.int .u8 3), .lit (.int .u8 5), .lit (.int .u8 0), .lit (.int .u8 0), .lit (.int .u8 0), .lit (.int .u8 0), .lit (.int .u8 0), .lit (.int .u8 0), .lit (.int .u8 0), .lit (.int .u8 0), .lit (.int .u8 1), .lit (.int .u8 1), .lit (.int .u8 0), .lit (.int .u8 0), .lit (.int .u8 0), .lit (.int .u8 0), .lit (.int .u8 3), .lit (.int .u8 3), .lit (.int .u8 3), .lit (.int .u8 3), .lit (.int .u8 3), .lit (.int .u8 0), .lit (.int .u8 0), .lit (.int .u8 0), .lit (.int .u8 6), .lit (.int .u8 6), .lit (.int .u8 0), .lit (.int .u8 0), .lit (.int .u8 6), .lit (.int .u8 6), .lit (.int .u8 6), .lit (.int .u8 6), .lit (.int .u8 6), .lit (.int .u8 6), .lit (.int .u8 6), .lit (.int .u8 6), .lit (.int .u8 6), .lit (.int .u8 6), .lit (.int .u8 6), .lit (.int .u8 6), .lit (.int .u8 0), .lit (.int .u8 0), .lit (.int .u8 6), .lit (.int .u8 6), .lit (.int .u8 6), .lit (.int .u8 6), .lit (.int .u8 6), .lit (.int .u8 7), .lit (.int .u8 7), .lit (.int .u8 8), .lit (.int .u8 9), .lit (.int .u8 0), .lit (.int .u8 0), .lit (.int .u8 1), .lit (.int .u8 1), .lit (.int .u8 1), .lit (.int .u8 1), .lit (.int .u8 1), .lit (.int .u8 1), .lit (.int .u8 1), .lit (.int .u8 1), .lit (.int .u8 1), .lit (.int .u8 1), .lit (.int .u8 1), .lit (.int .u8 1), .lit (.int .u8 1), .lit (.int .u8 1), .lit (.int .u8 1), .lit (.int .u8 1), .lit (.int .u8 1), .lit (.int .u8 1), .lit (.int .u8 1), .lit (.int .u8 1), .lit (.int .u8 1), .lit (.int .u8 1), .lit (.int .u8 0), .lit (.int .u8 0), .lit (.int .u8 0), .lit (.int .u8 0), .lit (.int .u8 0), .lit (.int .u8 0), .lit (.int .u8 0), .lit (.int .u8 0), .lit (.int .u8 0), .lit (.int .u8 0), .lit (.int .u8 0), .lit (.int .u8 0), .lit (.int .u8 1), .lit (.int .u8 1), .lit (.int .u8 1), .lit (.int .u8 1), .lit (.int .u8 1), .lit (.int .u8 1), .lit (.int .u8 1), .lit (.int .u8 1), .lit (.int .u8 1), .lit (.int .u8 1), .lit (.int .u8 1), .lit (.int .u8 1), .lit (.int .u8 1), .lit (.int .u8 1), .lit (.int .u8 1), .lit (.int .u8 1), .lit (.int .u8 1), .lit (.int .u8 1), .lit (.int .u8 1), .lit (.int .u8 1), .lit (.int .u8 1), .lit (.int .u8 1), .lit (.int .u8 1), .lit (.int .u8 1), .lit (.int .u8 1), .lit (.int .u8 1), .lit (.int .u8 1), .lit (.int .u8 1), .lit (.int .u8 1), .lit (.int .u8 1), .lit (.int .u8 1), .lit (.int .u8 1), .lit (.int .u8 1), .lit (.int .u8 1), .lit (.int .u8 1), .lit (.int .u8 1), .lit (.int .u8 0), .lit (.int .u8 0), .lit (.int .u8 0), .lit (.int .u8 0), .lit (.int .u8 0), .lit (.int .u8 0), .lit (.int .u8 0), .lit (.int .u8 0), .lit (.int .u8 0), .lit (.int .u8 0), .lit (.int .u8 0), .lit (.int .u8 0), .lit (.int .u8 0), .lit (.int .u8 0), .lit (.int .u8 0), .lit (.int .u8 0), .lit (.int .u8 0), .lit (.int .u8 0), .lit (.int .u8 0), .lit (.int .u8 0), .lit (.int .u8 0), .lit (.int .u8 0), .lit (.int .u8 0), .lit (.int .u8 0), .lit (.int .u8 0), .lit (.int .u8 0), .lit (.int .u8 0), .lit (.int .u8 0), .lit (.int .u8 1), .lit (.int .u8 0), .lit (.int .u8 0), .lit (.int .u8 0), .lit (.int .u8 0), .lit (.int .u8 1), .lit (.int .u8 1)]

/-- 'avocetlaw06.BodyIs': WHATEVER THE INPUT: true; the input reads as it did. -/
def bodyIsSpec : ChangeSpec := { name := "bodyIs", fn := fun _ => fun
  | [d1, d2, d3, d4, d5] => { results := [.lit (.bool true)], args := [d1, d2, d3, d4, d5] }
  | _ => none }
def bodyIsRow : OpenClaim := { program := "ytdmidagcdhhlhaadoor", sum := "17182837f5dffad96392416694ad24cc12e552e44d1ca44f5c2c9ae4374f137d", func := "avocet/avocetlaw06.BodyIs", spec := "bodyIs", unfollowed := true, recurses := true, named := ["avocet/instr.kinds"], apart := false, laid := [("avocet/instr.kinds", laid_avocet_instr_kinds)] }
def BodyIsSaid : Prop := bodyIsRow.holds Tryd.pinned (OpenSpec.ofChange bodyIsSpec)

/-- ITS FALSE NEIGHBOUR: 'it returns false'. Refute it at one input. -/
def bodyIsWrong : ChangeSpec := { name := "bodyIs", fn := fun _ => fun
  | [d1, d2, d3, d4, d5] => { results := [.lit (.bool false)], args := [d1, d2, d3, d4, d5] }
  | _ => none }
def BodyIsWrongFalsely : Prop := bodyIsRow.holds Tryd.pinned (OpenSpec.ofChange bodyIsWrong)

/-- 'avocetlaw06.BodyBack': WHATEVER THE INPUT: true; the input reads as it did. -/
def bodyBackSpec : ChangeSpec := { name := "bodyBack", fn := fun _ => fun
  | [d1, d2, d3] => { results := [.lit (.bool true)], args := [d1, d2, d3] }
  | _ => none }
def bodyBackRow : OpenClaim := { program := "ytdmidagcdhhlhaadoor", sum := "17182837f5dffad96392416694ad24cc12e552e44d1ca44f5c2c9ae4374f137d", func := "avocet/avocetlaw06.BodyBack", spec := "bodyBack", unfollowed := true, recurses := true, named := ["avocet/instr.kinds"], apart := false, laid := [("avocet/instr.kinds", laid_avocet_instr_kinds)] }
def BodyBackSaid : Prop := bodyBackRow.holds Tryd.pinned (OpenSpec.ofChange bodyBackSpec)

/-- ITS FALSE NEIGHBOUR: 'it returns false'. Refute it at one input. -/
def bodyBackWrong : ChangeSpec := { name := "bodyBack", fn := fun _ => fun
  | [d1, d2, d3] => { results := [.lit (.bool false)], args := [d1, d2, d3] }
  | _ => none }
def BodyBackWrongFalsely : Prop := bodyBackRow.holds Tryd.pinned (OpenSpec.ofChange bodyBackWrong)

/-- 'avocetlaw06.BodyNests': WHATEVER THE INPUT: true; the input reads as it did. -/
def bodyNestsSpec : ChangeSpec := { name := "bodyNests", fn := fun _ => fun
  | [d] => { results := [.lit (.bool true)], args := [d] }
  | _ => none }
def bodyNestsRow : OpenClaim := { program := "ytdmidagcdhhlhaadoor", sum := "17182837f5dffad96392416694ad24cc12e552e44d1ca44f5c2c9ae4374f137d", func := "avocet/avocetlaw06.BodyNests", spec := "bodyNests", unfollowed := true, recurses := true, named := ["avocet/instr.kinds"], apart := false, laid := [("avocet/instr.kinds", laid_avocet_instr_kinds)] }
def BodyNestsSaid : Prop := bodyNestsRow.holds Tryd.pinned (OpenSpec.ofChange bodyNestsSpec)

/-- ITS FALSE NEIGHBOUR: 'it returns false'. Refute it at one input. -/
def bodyNestsWrong : ChangeSpec := { name := "bodyNests", fn := fun _ => fun
  | [d] => { results := [.lit (.bool false)], args := [d] }
  | _ => none }
def BodyNestsWrongFalsely : Prop := bodyNestsRow.holds Tryd.pinned (OpenSpec.ofChange bodyNestsWrong)

/-- 'avocetlaw06.BodyTargets': WHATEVER THE INPUT: true; the input reads as it did. -/
def bodyTargetsSpec : ChangeSpec := { name := "bodyTargets", fn := fun _ => fun
  | [d1, d2, d3] => { results := [.lit (.bool true)], args := [d1, d2, d3] }
  | _ => none }
def bodyTargetsRow : OpenClaim := { program := "ytdmidagcdhhlhaadoor", sum := "17182837f5dffad96392416694ad24cc12e552e44d1ca44f5c2c9ae4374f137d", func := "avocet/avocetlaw06.BodyTargets", spec := "bodyTargets", unfollowed := true, recurses := true, named := ["avocet/instr.kinds"], apart := false, laid := [("avocet/instr.kinds", laid_avocet_instr_kinds)] }
def BodyTargetsSaid : Prop := bodyTargetsRow.holds Tryd.pinned (OpenSpec.ofChange bodyTargetsSpec)

/-- ITS FALSE NEIGHBOUR: 'it returns false'. Refute it at one input. -/
def bodyTargetsWrong : ChangeSpec := { name := "bodyTargets", fn := fun _ => fun
  | [d1, d2, d3] => { results := [.lit (.bool false)], args := [d1, d2, d3] }
  | _ => none }
def BodyTargetsWrongFalsely : Prop := bodyTargetsRow.holds Tryd.pinned (OpenSpec.ofChange bodyTargetsWrong)

/-- 'avocetlaw06.BodyDeeper': WHATEVER THE INPUT: true; the input reads as it did. -/
def bodyDeeperSpec : ChangeSpec := { name := "bodyDeeper", fn := fun _ => fun
  | [d1, d2] => { results := [.lit (.bool true)], args := [d1, d2] }
  | _ => none }
def bodyDeeperRow : OpenClaim := { program := "ytdmidagcdhhlhaadoor", sum := "17182837f5dffad96392416694ad24cc12e552e44d1ca44f5c2c9ae4374f137d", func := "avocet/avocetlaw06.BodyDeeper", spec := "bodyDeeper", unfollowed := true, recurses := true, named := ["avocet/instr.kinds"], apart := false, laid := [("avocet/instr.kinds", laid_avocet_instr_kinds)] }
def BodyDeeperSaid : Prop := bodyDeeperRow.holds Tryd.pinned (OpenSpec.ofChange bodyDeeperSpec)

/-- ITS FALSE NEIGHBOUR: 'it returns false'. Refute it at one input. -/
def bodyDeeperWrong : ChangeSpec := { name := "bodyDeeper", fn := fun _ => fun
  | [d1, d2] => { results := [.lit (.bool false)], args := [d1, d2] }
  | _ => none }
def BodyDeeperWrongFalsely : Prop := bodyDeeperRow.holds Tryd.pinned (OpenSpec.ofChange bodyDeeperWrong)

/-- 'avocetlaw06.BodyRows': WHATEVER THE INPUT: true; the input reads as it did. -/
def bodyRowsSpec : ChangeSpec := { name := "bodyRows", fn := fun _ => fun
  | [d1, d2] => { results := [.lit (.bool true)], args := [d1, d2] }
  | _ => none }
def bodyRowsRow : OpenClaim := { program := "ytdmidagcdhhlhaadoor", sum := "17182837f5dffad96392416694ad24cc12e552e44d1ca44f5c2c9ae4374f137d", func := "avocet/avocetlaw06.BodyRows", spec := "bodyRows", unfollowed := true, recurses := true, named := ["avocet/instr.kinds"], apart := false, laid := [("avocet/instr.kinds", laid_avocet_instr_kinds)] }
def BodyRowsSaid : Prop := bodyRowsRow.holds Tryd.pinned (OpenSpec.ofChange bodyRowsSpec)

/-- ITS FALSE NEIGHBOUR: 'it returns false'. Refute it at one input. -/
def bodyRowsWrong : ChangeSpec := { name := "bodyRows", fn := fun _ => fun
  | [d1, d2] => { results := [.lit (.bool false)], args := [d1, d2] }
  | _ => none }
def BodyRowsWrongFalsely : Prop := bodyRowsRow.holds Tryd.pinned (OpenSpec.ofChange bodyRowsWrong)

/- THE SECOND FORM. 'bulk': how many values and letters a reading holds, each counted each time it is reached (what is shared counts as often as it is met; a slice's spare places count too). A statement '..UptoSaid' is the law's where the arguments, and the package variables that the reading takes, are together of bulk at most 1048576: NARROWER than '..Said'. Prove '..Said' where nothing that the law and all that it calls make is longer than what came in: it says more and counts as full. Else prove '..UptoSaid'. A law counts once. -/
mutual
def uptoBulk {H : Type} : DataW H → Nat
  | .lit (.string bytes) => bytes.length + 1
  | .lit _ => 1
  | .nil => 1
  | .ptr d => uptoBulk d + 1
  | .slice elems spare => uptoBulkAll elems + uptoBulkAll spare + 1
  | .agg parts => uptoBulkAll parts + 1
  | .iface _ d => uptoBulk d + 1
  | .map entries => uptoBulkEntries entries + 1
  | .held _ => 1
def uptoBulkAll {H : Type} : List (DataW H) → Nat
  | [] => 0
  | d :: r => uptoBulk d + uptoBulkAll r
def uptoBulkEntries {H : Type} : List (Lit × DataW H) → Nat
  | [] => 0
  | x :: r => uptoBulkEntry x + uptoBulkEntries r
def uptoBulkEntry {H : Type} : Lit × DataW H → Nat
  | (.string bytes, d) => bytes.length + uptoBulk d + 1
  | (_, d) => uptoBulk d + 1
 end
def uptoSmall : (H : Type) → List (DataW H) → Bool := fun _ ds => decide (uptoBulkAll ds ≤ 1048576)
def OpenSpec.upto (s : _root_.Go.ChangeSpec) : _root_.Go.OpenSpec := { _root_.Go.OpenSpec.ofChange s with cond := some uptoSmall }

/-- 'avocetlaw06.BodyIs', WHERE WHAT IT READS IS OF BULK AT MOST 1048576: true; the input reads as it did. -/
def bodyIsUptoRow : OpenClaim := { program := "ytdmidagcdhhlhaadoor", sum := "17182837f5dffad96392416694ad24cc12e552e44d1ca44f5c2c9ae4374f137d", func := "avocet/avocetlaw06.BodyIs", spec := "bodyIs", unfollowed := true, recurses := true, named := ["avocet/instr.kinds"], apart := false, laid := [("avocet/instr.kinds", laid_avocet_instr_kinds)], narrowed := true }
def BodyIsUptoSaid : Prop := bodyIsUptoRow.holds Tryd.pinned (OpenSpec.upto bodyIsSpec)

/-- 'avocetlaw06.BodyBack', WHERE WHAT IT READS IS OF BULK AT MOST 1048576: true; the input reads as it did. -/
def bodyBackUptoRow : OpenClaim := { program := "ytdmidagcdhhlhaadoor", sum := "17182837f5dffad96392416694ad24cc12e552e44d1ca44f5c2c9ae4374f137d", func := "avocet/avocetlaw06.BodyBack", spec := "bodyBack", unfollowed := true, recurses := true, named := ["avocet/instr.kinds"], apart := false, laid := [("avocet/instr.kinds", laid_avocet_instr_kinds)], narrowed := true }
def BodyBackUptoSaid : Prop := bodyBackUptoRow.holds Tryd.pinned (OpenSpec.upto bodyBackSpec)

/-- 'avocetlaw06.BodyNests', WHERE WHAT IT READS IS OF BULK AT MOST 1048576: true; the input reads as it did. -/
def bodyNestsUptoRow : OpenClaim := { program := "ytdmidagcdhhlhaadoor", sum := "17182837f5dffad96392416694ad24cc12e552e44d1ca44f5c2c9ae4374f137d", func := "avocet/avocetlaw06.BodyNests", spec := "bodyNests", unfollowed := true, recurses := true, named := ["avocet/instr.kinds"], apart := false, laid := [("avocet/instr.kinds", laid_avocet_instr_kinds)], narrowed := true }
def BodyNestsUptoSaid : Prop := bodyNestsUptoRow.holds Tryd.pinned (OpenSpec.upto bodyNestsSpec)

/-- 'avocetlaw06.BodyTargets', WHERE WHAT IT READS IS OF BULK AT MOST 1048576: true; the input reads as it did. -/
def bodyTargetsUptoRow : OpenClaim := { program := "ytdmidagcdhhlhaadoor", sum := "17182837f5dffad96392416694ad24cc12e552e44d1ca44f5c2c9ae4374f137d", func := "avocet/avocetlaw06.BodyTargets", spec := "bodyTargets", unfollowed := true, recurses := true, named := ["avocet/instr.kinds"], apart := false, laid := [("avocet/instr.kinds", laid_avocet_instr_kinds)], narrowed := true }
def BodyTargetsUptoSaid : Prop := bodyTargetsUptoRow.holds Tryd.pinned (OpenSpec.upto bodyTargetsSpec)

/-- 'avocetlaw06.BodyDeeper', WHERE WHAT IT READS IS OF BULK AT MOST 1048576: true; the input reads as it did. -/
def bodyDeeperUptoRow : OpenClaim := { program := "ytdmidagcdhhlhaadoor", sum := "17182837f5dffad96392416694ad24cc12e552e44d1ca44f5c2c9ae4374f137d", func := "avocet/avocetlaw06.BodyDeeper", spec := "bodyDeeper", unfollowed := true, recurses := true, named := ["avocet/instr.kinds"], apart := false, laid := [("avocet/instr.kinds", laid_avocet_instr_kinds)], narrowed := true }
def BodyDeeperUptoSaid : Prop := bodyDeeperUptoRow.holds Tryd.pinned (OpenSpec.upto bodyDeeperSpec)

/-- 'avocetlaw06.BodyRows', WHERE WHAT IT READS IS OF BULK AT MOST 1048576: true; the input reads as it did. -/
def bodyRowsUptoRow : OpenClaim := { program := "ytdmidagcdhhlhaadoor", sum := "17182837f5dffad96392416694ad24cc12e552e44d1ca44f5c2c9ae4374f137d", func := "avocet/avocetlaw06.BodyRows", spec := "bodyRows", unfollowed := true, recurses := true, named := ["avocet/instr.kinds"], apart := false, laid := [("avocet/instr.kinds", laid_avocet_instr_kinds)], narrowed := true }
def BodyRowsUptoSaid : Prop := bodyRowsUptoRow.holds Tryd.pinned (OpenSpec.upto bodyRowsSpec)

end Rows
end Go.Proofs.YtdmidagcdhhlhaaDoor
