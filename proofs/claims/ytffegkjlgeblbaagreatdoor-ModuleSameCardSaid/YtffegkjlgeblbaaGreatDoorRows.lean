/-
  NARROWER THAN 'FOR EVERY INPUT', by the rows' own cells (each row's printed sentence says how): ModuleReads: laid · ModuleLays: laid · ModuleBack: laid · ModuleTold: laid · ModuleShort: laid · ModuleRuns: laid · ModuleSame: laid · ModuleLimits: laid.
  DERIVED. THE GIVEN ROWS OF THIS SEAT. 8 by the template 'for every input the law returns true; each argument reads behind the call as it read before'; 0 by the template 'total and deterministic' (their statements: YtffegkjlgeblbaaGreatDoorTotals.lean).
  GIVEN WITH THE SEED: the statements are not yours to turn. If you find one false, say at which input.
  Laid BY PROGRAM, IN A SANDBOX (cutbox-rows.mjs): the forced cells as the released guide's own fill.sh prints them over the translation ed70b2e80d6c009c… (all of the seat's roots in one cut). By AI agents, Wed Nov 11 2026. No macro, syntax, notation, axiom, sorry.
-/
import Derived.Test.YtffegkjlgeblbaaGreatDoorChecked
import GoSem.Claim
import GoSem.ClaimJoined
import GoSem.ClaimMapViews
import Derived.JoinedTies
import Derived.KernelRfl
namespace Go.Proofs.YtffegkjlgeblbaaGreatDoor
/- THE CELL 'sum', in the pinned program and in every row, IS THE sha256 OF THE DUMP (.gsa) THAT YtffegkjlgeblbaaGreatDoorProg.lean LOADS. Nothing in Lean hashes anything: it is a label: what it is worth is what the hold of that sum in a sandbox is worth. -/
noncomputable def Tryz.pinned : Pinned := { name := "ytffegkjlgeblbaagreatdoor", sum := "ed70b2e80d6c009c64907ec69f0f741de473c04365b53345d0d5235fe796f5ba", checked := Tryz.checked }
namespace Rows
def none {H : Type} : Left H := { results := [], args := [] }

/- WHAT THE LISTED PACKAGE-LEVEL VARIABLES READ AS WHEN THE CALL BEGINS. Each datum BY PROGRAM (the guide's laid-datum.mjs) off the statement by which the dump's own 'gosem.cut.vars' lays the variable. In a bare row this is a premise. The card (YtffegkjlgeblbaaGreatDoorCards.lean) ties it to the program's text. -/
def laid_avocet_instr_kinds {H : Type} : DataW H := .agg [.lit (.int .u8 1), .lit (.int .u8 1), .lit (.int .u8 2), .lit (.int .u8 2), .lit (.int .u8 2), .lit (.int .u8 1), .lit (.int .u8 0), .lit (.int .u8 0), .lit (.int .u8 0), .lit (.int .u8 0), .lit (.int .u8 0), .lit (.int .u8 1), .lit (.int .u8 3), .lit (.int .u8 3), .lit (.int .u8 4), .lit (.int .u8 1), .lit (.int .u8 3), .lit (.int .u8 5), .lit (.int .u8 0), .lit (.int .u8 0), .lit (.int .u8 0), .lit (.int .u8 0), .lit (.int .u8 0), .lit (.int .u8 0), .lit (.int .u8 0), .lit (.int .u8 0), .lit (.int .u8 1), .lit (.int .u8 1), .lit (.int .u8 0), .lit (.int .u8 0), .lit (.int .u8 0), .lit (.int .u8 0), .lit (.int .u8 3), .lit (.int .u8 3), .lit (.int .u8 3), .lit (.int .u8 3), .lit (.int .u8 3), .lit (.int .u8 0), .lit (.int .u8 0), .lit (.int .u8 0), .lit (.int .u8 6), .lit (.int .u8 6), .lit (.int .u8 0), .lit (.int .u8 0), .lit (.int .u8 6), .lit (.int .u8 6), .lit (.int .u8 6), .lit (.int .u8 6), .lit (.int .u8 6), .lit (.int .u8 6), .lit (.int .u8 6), .lit (.int .u8 6), .lit (.int .u8 6), .lit (.int .u8 6), .lit (.int .u8 6), .lit (.int .u8 6), .lit (.int .u8 0), .lit (.int .u8 0), .lit (.int .u8 6), .lit (.int .u8 6), .lit (.int .u8 6), .lit (.int .u8 6), .lit (.int .u8 6), .lit (.int .u8 7), .lit (.int .u8 7), .lit (.int .u8 8), .lit (.int .u8 9), .lit (.int .u8 0), .lit (.int .u8 0), .lit (.int .u8 1), .lit (.int .u8 1), .lit (.int .u8 1), .lit (.int .u8 1), .lit (.int .u8 1), .lit (.int .u8 1), .lit (.int .u8 1), .lit (.int .u8 1), .lit (.int .u8 1), .lit (.int .u8 1), .lit (.int .u8 1), .lit (.int .u8 1), .lit (.int .u8 1), .lit (.int .u8 1), .lit (.int .u8 1), .lit (.int .u8 1), .lit (.int .u8 1), .lit (.int .u8 1), .lit (.int .u8 1), .lit (.int .u8 1), .lit (.int .u8 1), .lit (.int .u8 1), .lit (.int .u8 0), .lit (.int .u8 0), .lit (.int .u8 0), .lit (.int .u8 0), .lit (.int .u8 0), .lit (.int .u8 0), .lit (.int .u8 0), .lit (.int .u8 0), .lit (.int .u8 0), .lit (.int .u8 0), .lit (.int .u8 0), .lit (.int .u8 0), .lit (.int .u8 1), .lit (.int .u8 1), .lit (.int .u8 1), .lit (.int .u8 1), .lit (.int .u8 1), .lit (.int .u8 1), .lit (.int .u8 1), .lit (.int .u8 1), .lit (.int .u8 1), .lit (.int .u8 1), .lit (.int .u8 1), .lit (.int .u8 1), .lit (.int .u8 1), .lit (.int .u8 1), .lit (.int .u8 1), .lit (.int .u8 1), .lit (.int .u8 1), .lit (.int .u8 1), .lit (.int .u8 1), .lit (.int .u8 1), .lit (.int .u8 1), .lit (.int .u8 1), .lit (.int .u8 1), .lit (.int .u8 1), .lit (.int .u8 1), .lit (.int .u8 1), .lit (.int .u8 1), .lit (.int .u8 1), .lit (.int .u8 1), .lit (.int .u8 1), .lit (.int .u8 1), .lit (.int .u8 1), .lit (.int .u8 1), .lit (.int .u8 1), .lit (.int .u8 1), .lit (.int .u8 1), .lit (.int .u8 0), .lit (.int .u8 0), .lit (.int .u8 0), .lit (.int .u8 0), .lit (.int .u8 0), .lit (.int .u8 0), .lit (.int .u8 0), .lit (.int .u8 0), .lit (.int .u8 0), .lit (.int .u8 0), .lit (.int .u8 0), .lit (.int .u8 0), .lit (.int .u8 0), .lit (.int .u8 0), .lit (.int .u8 0), .lit (.int .u8 0), .lit (.int .u8 0), .lit (.int .u8 0), .lit (.int .u8 0), .lit (.int .u8 0), .lit (.int .u8 0), .lit (.int .u8 0), .lit (.int .u8 0), .lit (.int .u8 0), .lit (.int .u8 0), .lit (.int .u8 0), .lit (.int .u8 0), .lit (.int .u8 0), .lit (.int .u8 1), .lit (.int .u8 0), .lit (.int .u8 0), .lit (.int .u8 0), .lit (.int .u8 0), .lit (.int .u8 1), .lit (.int .u8 1)]

/-- 'avocetlaw08.ModuleReads': WHATEVER THE INPUT: true; the input reads as it did. -/
def moduleReadsSpec : ChangeSpec := { name := "moduleReads", fn := fun _ => fun
  | [d] => { results := [.lit (.bool true)], args := [d] }
  | _ => none }
def moduleReadsRow : OpenClaim := { program := "ytffegkjlgeblbaagreatdoor", sum := "ed70b2e80d6c009c64907ec69f0f741de473c04365b53345d0d5235fe796f5ba", func := "avocet/avocetlaw08.ModuleReads", spec := "moduleReads", inPlace := ["internal/bytealg.MakeNoZero"], unfollowed := true, recurses := true, named := ["avocet/instr.kinds"], apart := false, laid := [("avocet/instr.kinds", laid_avocet_instr_kinds)] }
def ModuleReadsSaid : Prop := moduleReadsRow.holds Tryz.pinned (OpenSpec.ofChange moduleReadsSpec)

/-- ITS FALSE NEIGHBOUR: 'it returns false'. Refute it at one input. -/
def moduleReadsWrong : ChangeSpec := { name := "moduleReads", fn := fun _ => fun
  | [d] => { results := [.lit (.bool false)], args := [d] }
  | _ => none }
def ModuleReadsWrongFalsely : Prop := moduleReadsRow.holds Tryz.pinned (OpenSpec.ofChange moduleReadsWrong)

/-- 'avocetlaw08.ModuleLays': WHATEVER THE INPUT: true; the input reads as it did. -/
def moduleLaysSpec : ChangeSpec := { name := "moduleLays", fn := fun _ => fun
  | [d1, d2, d3, d4] => { results := [.lit (.bool true)], args := [d1, d2, d3, d4] }
  | _ => none }
def moduleLaysRow : OpenClaim := { program := "ytffegkjlgeblbaagreatdoor", sum := "ed70b2e80d6c009c64907ec69f0f741de473c04365b53345d0d5235fe796f5ba", func := "avocet/avocetlaw08.ModuleLays", spec := "moduleLays", inPlace := ["internal/bytealg.MakeNoZero"], unfollowed := true, recurses := true, named := ["avocet/instr.kinds"], apart := false, laid := [("avocet/instr.kinds", laid_avocet_instr_kinds)] }
def ModuleLaysSaid : Prop := moduleLaysRow.holds Tryz.pinned (OpenSpec.ofChange moduleLaysSpec)

/-- ITS FALSE NEIGHBOUR: 'it returns false'. Refute it at one input. -/
def moduleLaysWrong : ChangeSpec := { name := "moduleLays", fn := fun _ => fun
  | [d1, d2, d3, d4] => { results := [.lit (.bool false)], args := [d1, d2, d3, d4] }
  | _ => none }
def ModuleLaysWrongFalsely : Prop := moduleLaysRow.holds Tryz.pinned (OpenSpec.ofChange moduleLaysWrong)

/-- 'avocetlaw08.ModuleBack': WHATEVER THE INPUT: true; the input reads as it did. -/
def moduleBackSpec : ChangeSpec := { name := "moduleBack", fn := fun _ => fun
  | [d] => { results := [.lit (.bool true)], args := [d] }
  | _ => none }
def moduleBackRow : OpenClaim := { program := "ytffegkjlgeblbaagreatdoor", sum := "ed70b2e80d6c009c64907ec69f0f741de473c04365b53345d0d5235fe796f5ba", func := "avocet/avocetlaw08.ModuleBack", spec := "moduleBack", inPlace := ["internal/bytealg.MakeNoZero"], unfollowed := true, recurses := true, named := ["avocet/instr.kinds"], apart := false, laid := [("avocet/instr.kinds", laid_avocet_instr_kinds)] }
def ModuleBackSaid : Prop := moduleBackRow.holds Tryz.pinned (OpenSpec.ofChange moduleBackSpec)

/-- ITS FALSE NEIGHBOUR: 'it returns false'. Refute it at one input. -/
def moduleBackWrong : ChangeSpec := { name := "moduleBack", fn := fun _ => fun
  | [d] => { results := [.lit (.bool false)], args := [d] }
  | _ => none }
def ModuleBackWrongFalsely : Prop := moduleBackRow.holds Tryz.pinned (OpenSpec.ofChange moduleBackWrong)

/-- 'avocetlaw08.ModuleTold': WHATEVER THE INPUT: true; the input reads as it did. -/
def moduleToldSpec : ChangeSpec := { name := "moduleTold", fn := fun _ => fun
  | [d1, d2, d3] => { results := [.lit (.bool true)], args := [d1, d2, d3] }
  | _ => none }
def moduleToldRow : OpenClaim := { program := "ytffegkjlgeblbaagreatdoor", sum := "ed70b2e80d6c009c64907ec69f0f741de473c04365b53345d0d5235fe796f5ba", func := "avocet/avocetlaw08.ModuleTold", spec := "moduleTold", inPlace := ["internal/bytealg.MakeNoZero"], unfollowed := true, recurses := true, named := ["avocet/instr.kinds"], apart := false, laid := [("avocet/instr.kinds", laid_avocet_instr_kinds)] }
def ModuleToldSaid : Prop := moduleToldRow.holds Tryz.pinned (OpenSpec.ofChange moduleToldSpec)

/-- ITS FALSE NEIGHBOUR: 'it returns false'. Refute it at one input. -/
def moduleToldWrong : ChangeSpec := { name := "moduleTold", fn := fun _ => fun
  | [d1, d2, d3] => { results := [.lit (.bool false)], args := [d1, d2, d3] }
  | _ => none }
def ModuleToldWrongFalsely : Prop := moduleToldRow.holds Tryz.pinned (OpenSpec.ofChange moduleToldWrong)

/-- 'avocetlaw08.ModuleShort': WHATEVER THE INPUT: true; the input reads as it did. -/
def moduleShortSpec : ChangeSpec := { name := "moduleShort", fn := fun _ => fun
  | [d1, d2] => { results := [.lit (.bool true)], args := [d1, d2] }
  | _ => none }
def moduleShortRow : OpenClaim := { program := "ytffegkjlgeblbaagreatdoor", sum := "ed70b2e80d6c009c64907ec69f0f741de473c04365b53345d0d5235fe796f5ba", func := "avocet/avocetlaw08.ModuleShort", spec := "moduleShort", inPlace := ["internal/bytealg.MakeNoZero"], unfollowed := true, recurses := true, named := ["avocet/instr.kinds"], apart := false, laid := [("avocet/instr.kinds", laid_avocet_instr_kinds)] }
def ModuleShortSaid : Prop := moduleShortRow.holds Tryz.pinned (OpenSpec.ofChange moduleShortSpec)

/-- ITS FALSE NEIGHBOUR: 'it returns false'. Refute it at one input. -/
def moduleShortWrong : ChangeSpec := { name := "moduleShort", fn := fun _ => fun
  | [d1, d2] => { results := [.lit (.bool false)], args := [d1, d2] }
  | _ => none }
def ModuleShortWrongFalsely : Prop := moduleShortRow.holds Tryz.pinned (OpenSpec.ofChange moduleShortWrong)

/-- 'avocetlaw08.ModuleRuns': WHATEVER THE INPUT: true; the input reads as it did. -/
def moduleRunsSpec : ChangeSpec := { name := "moduleRuns", fn := fun _ => fun
  | [d1, d2] => { results := [.lit (.bool true)], args := [d1, d2] }
  | _ => none }
def moduleRunsRow : OpenClaim := { program := "ytffegkjlgeblbaagreatdoor", sum := "ed70b2e80d6c009c64907ec69f0f741de473c04365b53345d0d5235fe796f5ba", func := "avocet/avocetlaw08.ModuleRuns", spec := "moduleRuns", inPlace := ["internal/bytealg.MakeNoZero"], unfollowed := true, recurses := true, named := ["avocet/instr.kinds"], apart := false, laid := [("avocet/instr.kinds", laid_avocet_instr_kinds)] }
def ModuleRunsSaid : Prop := moduleRunsRow.holds Tryz.pinned (OpenSpec.ofChange moduleRunsSpec)

/-- ITS FALSE NEIGHBOUR: 'it returns false'. Refute it at one input. -/
def moduleRunsWrong : ChangeSpec := { name := "moduleRuns", fn := fun _ => fun
  | [d1, d2] => { results := [.lit (.bool false)], args := [d1, d2] }
  | _ => none }
def ModuleRunsWrongFalsely : Prop := moduleRunsRow.holds Tryz.pinned (OpenSpec.ofChange moduleRunsWrong)

/-- 'avocetlaw08.ModuleSame': WHATEVER THE INPUT: true; the input reads as it did. -/
def moduleSameSpec : ChangeSpec := { name := "moduleSame", fn := fun _ => fun
  | [d1, d2] => { results := [.lit (.bool true)], args := [d1, d2] }
  | _ => none }
def moduleSameRow : OpenClaim := { program := "ytffegkjlgeblbaagreatdoor", sum := "ed70b2e80d6c009c64907ec69f0f741de473c04365b53345d0d5235fe796f5ba", func := "avocet/avocetlaw08.ModuleSame", spec := "moduleSame", inPlace := ["internal/bytealg.MakeNoZero"], unfollowed := true, recurses := true, named := ["avocet/instr.kinds"], apart := false, laid := [("avocet/instr.kinds", laid_avocet_instr_kinds)] }
def ModuleSameSaid : Prop := moduleSameRow.holds Tryz.pinned (OpenSpec.ofChange moduleSameSpec)

/-- ITS FALSE NEIGHBOUR: 'it returns false'. Refute it at one input. -/
def moduleSameWrong : ChangeSpec := { name := "moduleSame", fn := fun _ => fun
  | [d1, d2] => { results := [.lit (.bool false)], args := [d1, d2] }
  | _ => none }
def ModuleSameWrongFalsely : Prop := moduleSameRow.holds Tryz.pinned (OpenSpec.ofChange moduleSameWrong)

/-- 'avocetlaw08.ModuleLimits': WHATEVER THE INPUT: true; the input reads as it did. -/
def moduleLimitsSpec : ChangeSpec := { name := "moduleLimits", fn := fun _ => fun
  | [d] => { results := [.lit (.bool true)], args := [d] }
  | _ => none }
def moduleLimitsRow : OpenClaim := { program := "ytffegkjlgeblbaagreatdoor", sum := "ed70b2e80d6c009c64907ec69f0f741de473c04365b53345d0d5235fe796f5ba", func := "avocet/avocetlaw08.ModuleLimits", spec := "moduleLimits", inPlace := ["internal/bytealg.MakeNoZero"], unfollowed := true, recurses := true, named := ["avocet/instr.kinds"], apart := false, laid := [("avocet/instr.kinds", laid_avocet_instr_kinds)] }
def ModuleLimitsSaid : Prop := moduleLimitsRow.holds Tryz.pinned (OpenSpec.ofChange moduleLimitsSpec)

/-- ITS FALSE NEIGHBOUR: 'it returns false'. Refute it at one input. -/
def moduleLimitsWrong : ChangeSpec := { name := "moduleLimits", fn := fun _ => fun
  | [d] => { results := [.lit (.bool false)], args := [d] }
  | _ => none }
def ModuleLimitsWrongFalsely : Prop := moduleLimitsRow.holds Tryz.pinned (OpenSpec.ofChange moduleLimitsWrong)

/- THE SECOND FORM. 'bulk': how many values and letters a reading holds, each counted each time it is reached (what is shared counts as often as it is met; a slice's spare places count too). A statement '..UptoSaid' is the law's where the arguments, and the package variables that the reading takes, are together of bulk at most 1048576: NARROWER than '..Said'. Prove '..Said' where nothing that the law and all that it calls make is longer than what came in: it says more and counts as full. Else prove '..UptoSaid'. A law counts once. -/
mutual
def uptoBulk {H : Type} : DataW H → Nat
  | .lit (.string bytes) => bytes.length + 1
  | .lit _ => 1
  | .nil => 1
  | .ptr d => uptoBulk d + 1
  | .slice elems spare => uptoBulkAll elems + uptoBulkAll spare + 1
  | .agg parts => uptoBulkAll parts + 1
  | .iface _ d => uptoBulk d + 1
  | .map entries => uptoBulkEntries entries + 1
  | .held _ => 1
def uptoBulkAll {H : Type} : List (DataW H) → Nat
  | [] => 0
  | d :: r => uptoBulk d + uptoBulkAll r
def uptoBulkEntries {H : Type} : List (Lit × DataW H) → Nat
  | [] => 0
  | x :: r => uptoBulkEntry x + uptoBulkEntries r
def uptoBulkEntry {H : Type} : Lit × DataW H → Nat
  | (.string bytes, d) => bytes.length + uptoBulk d + 1
  | (_, d) => uptoBulk d + 1
 end
def uptoSmall : (H : Type) → List (DataW H) → Bool := fun _ ds => decide (uptoBulkAll ds ≤ 1048576)
def OpenSpec.upto (s : _root_.Go.ChangeSpec) : _root_.Go.OpenSpec := { _root_.Go.OpenSpec.ofChange s with cond := some uptoSmall }

/-- 'avocetlaw08.ModuleReads', WHERE WHAT IT READS IS OF BULK AT MOST 1048576: true; the input reads as it did. -/
def moduleReadsUptoRow : OpenClaim := { program := "ytffegkjlgeblbaagreatdoor", sum := "ed70b2e80d6c009c64907ec69f0f741de473c04365b53345d0d5235fe796f5ba", func := "avocet/avocetlaw08.ModuleReads", spec := "moduleReads", inPlace := ["internal/bytealg.MakeNoZero"], unfollowed := true, recurses := true, named := ["avocet/instr.kinds"], apart := false, laid := [("avocet/instr.kinds", laid_avocet_instr_kinds)], narrowed := true }
def ModuleReadsUptoSaid : Prop := moduleReadsUptoRow.holds Tryz.pinned (OpenSpec.upto moduleReadsSpec)

/-- 'avocetlaw08.ModuleLays', WHERE WHAT IT READS IS OF BULK AT MOST 1048576: true; the input reads as it did. -/
def moduleLaysUptoRow : OpenClaim := { program := "ytffegkjlgeblbaagreatdoor", sum := "ed70b2e80d6c009c64907ec69f0f741de473c04365b53345d0d5235fe796f5ba", func := "avocet/avocetlaw08.ModuleLays", spec := "moduleLays", inPlace := ["internal/bytealg.MakeNoZero"], unfollowed := true, recurses := true, named := ["avocet/instr.kinds"], apart := false, laid := [("avocet/instr.kinds", laid_avocet_instr_kinds)], narrowed := true }
def ModuleLaysUptoSaid : Prop := moduleLaysUptoRow.holds Tryz.pinned (OpenSpec.upto moduleLaysSpec)

/-- 'avocetlaw08.ModuleBack', WHERE WHAT IT READS IS OF BULK AT MOST 1048576: true; the input reads as it did. -/
def moduleBackUptoRow : OpenClaim := { program := "ytffegkjlgeblbaagreatdoor", sum := "ed70b2e80d6c009c64907ec69f0f741de473c04365b53345d0d5235fe796f5ba", func := "avocet/avocetlaw08.ModuleBack", spec := "moduleBack", inPlace := ["internal/bytealg.MakeNoZero"], unfollowed := true, recurses := true, named := ["avocet/instr.kinds"], apart := false, laid := [("avocet/instr.kinds", laid_avocet_instr_kinds)], narrowed := true }
def ModuleBackUptoSaid : Prop := moduleBackUptoRow.holds Tryz.pinned (OpenSpec.upto moduleBackSpec)

/-- 'avocetlaw08.ModuleTold', WHERE WHAT IT READS IS OF BULK AT MOST 1048576: true; the input reads as it did. -/
def moduleToldUptoRow : OpenClaim := { program := "ytffegkjlgeblbaagreatdoor", sum := "ed70b2e80d6c009c64907ec69f0f741de473c04365b53345d0d5235fe796f5ba", func := "avocet/avocetlaw08.ModuleTold", spec := "moduleTold", inPlace := ["internal/bytealg.MakeNoZero"], unfollowed := true, recurses := true, named := ["avocet/instr.kinds"], apart := false, laid := [("avocet/instr.kinds", laid_avocet_instr_kinds)], narrowed := true }
def ModuleToldUptoSaid : Prop := moduleToldUptoRow.holds Tryz.pinned (OpenSpec.upto moduleToldSpec)

/-- 'avocetlaw08.ModuleShort', WHERE WHAT IT READS IS OF BULK AT MOST 1048576: true; the input reads as it did. -/
def moduleShortUptoRow : OpenClaim := { program := "ytffegkjlgeblbaagreatdoor", sum := "ed70b2e80d6c009c64907ec69f0f741de473c04365b53345d0d5235fe796f5ba", func := "avocet/avocetlaw08.ModuleShort", spec := "moduleShort", inPlace := ["internal/bytealg.MakeNoZero"], unfollowed := true, recurses := true, named := ["avocet/instr.kinds"], apart := false, laid := [("avocet/instr.kinds", laid_avocet_instr_kinds)], narrowed := true }
def ModuleShortUptoSaid : Prop := moduleShortUptoRow.holds Tryz.pinned (OpenSpec.upto moduleShortSpec)

/-- 'avocetlaw08.ModuleRuns', WHERE WHAT IT READS IS OF BULK AT MOST 1048576: true; the input reads as it did. -/
def moduleRunsUptoRow : OpenClaim := { program := "ytffegkjlgeblbaagreatdoor", sum := "ed70b2e80d6c009c64907ec69f0f741de473c04365b53345d0d5235fe796f5ba", func := "avocet/avocetlaw08.ModuleRuns", spec := "moduleRuns", inPlace := ["internal/bytealg.MakeNoZero"], unfollowed := true, recurses := true, named := ["avocet/instr.kinds"], apart := false, laid := [("avocet/instr.kinds", laid_avocet_instr_kinds)], narrowed := true }
def ModuleRunsUptoSaid : Prop := moduleRunsUptoRow.holds Tryz.pinned (OpenSpec.upto moduleRunsSpec)

/-- 'avocetlaw08.ModuleSame', WHERE WHAT IT READS IS OF BULK AT MOST 1048576: true; the input reads as it did. -/
def moduleSameUptoRow : OpenClaim := { program := "ytffegkjlgeblbaagreatdoor", sum := "ed70b2e80d6c009c64907ec69f0f741de473c04365b53345d0d5235fe796f5ba", func := "avocet/avocetlaw08.ModuleSame", spec := "moduleSame", inPlace := ["internal/bytealg.MakeNoZero"], unfollowed := true, recurses := true, named := ["avocet/instr.kinds"], apart := false, laid := [("avocet/instr.kinds", laid_avocet_instr_kinds)], narrowed := true }
def ModuleSameUptoSaid : Prop := moduleSameUptoRow.holds Tryz.pinned (OpenSpec.upto moduleSameSpec)

/-- 'avocetlaw08.ModuleLimits', WHERE WHAT IT READS IS OF BULK AT MOST 1048576: true; the input reads as it did. -/
def moduleLimitsUptoRow : OpenClaim := { program := "ytffegkjlgeblbaagreatdoor", sum := "ed70b2e80d6c009c64907ec69f0f741de473c04365b53345d0d5235fe796f5ba", func := "avocet/avocetlaw08.ModuleLimits", spec := "moduleLimits", inPlace := ["internal/bytealg.MakeNoZero"], unfollowed := true, recurses := true, named := ["avocet/instr.kinds"], apart := false, laid := [("avocet/instr.kinds", laid_avocet_instr_kinds)], narrowed := true }
def ModuleLimitsUptoSaid : Prop := moduleLimitsUptoRow.holds Tryz.pinned (OpenSpec.upto moduleLimitsSpec)

end Rows
end Go.Proofs.YtffegkjlgeblbaaGreatDoor
