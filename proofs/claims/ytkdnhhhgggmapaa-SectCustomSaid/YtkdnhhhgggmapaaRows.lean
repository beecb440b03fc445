/-
  No cell of these rows narrows 'for every input' (looked for: loops, veiled, ifaces, maps, wideKeys, modest, calm, conditions, laid).
  DERIVED. THE GIVEN ROWS OF THIS SEAT. 6 by the template 'for every input the law returns true; each argument reads behind the call as it read before'; 0 by the template 'total and deterministic' (their statements: YtkdnhhhgggmapaaTotals.lean).
  GIVEN WITH THE SEED: the statements are not yours to turn. If you find one false, say at which input.
  Laid BY PROGRAM, IN A SANDBOX (cutbox-rows.mjs): the forced cells as the released guide's own fill.sh prints them over the translation ed9bfe0e8dc8db0c… (all of the seat's roots in one cut). By AI agents, Wed Nov 11 2026. No macro, syntax, notation, axiom, sorry.
-/
import Derived.Test.YtkdnhhhgggmapaaChecked
import GoSem.Claim
import GoSem.ClaimJoined
import GoSem.ClaimMapViews
import Derived.JoinedTies
import Derived.KernelRfl
namespace Go.Proofs.Ytkdnhhhgggmapaa
/- THE CELL 'sum', in the pinned program and in every row, IS THE sha256 OF THE DUMP (.gsa) THAT YtkdnhhhgggmapaaProg.lean LOADS. Nothing in Lean hashes anything: it is a label: what it is worth is what the hold of that sum in a sandbox is worth. -/
noncomputable def Try.pinned : Pinned := { name := "ytkdnhhhgggmapaa", sum := "ed9bfe0e8dc8db0c9e1fad43e2d4247ed81abc7e50981b55b3e962a8fc691ffe", checked := Try.checked }
namespace Rows
def none {H : Type} : Left H := { results := [], args := [] }

/-- 'avocetlaw07.SectIs': WHATEVER THE INPUT: true; the input reads as it did. -/
def sectIsSpec : ChangeSpec := { name := "sectIs", fn := fun _ => fun
  | [d1, d2, d3, d4, d5] => { results := [.lit (.bool true)], args := [d1, d2, d3, d4, d5] }
  | _ => none }
def sectIsRow : OpenClaim := { program := "ytkdnhhhgggmapaa", sum := "ed9bfe0e8dc8db0c9e1fad43e2d4247ed81abc7e50981b55b3e962a8fc691ffe", func := "avocet/avocetlaw07.SectIs", spec := "sectIs", unfollowed := true, recurses := true, apart := false }
def SectIsSaid : Prop := sectIsRow.holds Try.pinned (OpenSpec.ofChange sectIsSpec)

/-- ITS FALSE NEIGHBOUR: 'it returns false'. Refute it at one input. -/
def sectIsWrong : ChangeSpec := { name := "sectIs", fn := fun _ => fun
  | [d1, d2, d3, d4, d5] => { results := [.lit (.bool false)], args := [d1, d2, d3, d4, d5] }
  | _ => none }
def SectIsWrongFalsely : Prop := sectIsRow.holds Try.pinned (OpenSpec.ofChange sectIsWrong)

/-- 'avocetlaw07.SectBack': WHATEVER THE INPUT: true; the input reads as it did. -/
def sectBackSpec : ChangeSpec := { name := "sectBack", fn := fun _ => fun
  | [d] => { results := [.lit (.bool true)], args := [d] }
  | _ => none }
def sectBackRow : OpenClaim := { program := "ytkdnhhhgggmapaa", sum := "ed9bfe0e8dc8db0c9e1fad43e2d4247ed81abc7e50981b55b3e962a8fc691ffe", func := "avocet/avocetlaw07.SectBack", spec := "sectBack", unfollowed := true, recurses := true, apart := false }
def SectBackSaid : Prop := sectBackRow.holds Try.pinned (OpenSpec.ofChange sectBackSpec)

/-- ITS FALSE NEIGHBOUR: 'it returns false'. Refute it at one input. -/
def sectBackWrong : ChangeSpec := { name := "sectBack", fn := fun _ => fun
  | [d] => { results := [.lit (.bool false)], args := [d] }
  | _ => none }
def SectBackWrongFalsely : Prop := sectBackRow.holds Try.pinned (OpenSpec.ofChange sectBackWrong)

/-- 'avocetlaw07.SectTold': WHATEVER THE INPUT: true; the input reads as it did. -/
def sectToldSpec : ChangeSpec := { name := "sectTold", fn := fun _ => fun
  | [d] => { results := [.lit (.bool true)], args := [d] }
  | _ => none }
def sectToldRow : OpenClaim := { program := "ytkdnhhhgggmapaa", sum := "ed9bfe0e8dc8db0c9e1fad43e2d4247ed81abc7e50981b55b3e962a8fc691ffe", func := "avocet/avocetlaw07.SectTold", spec := "sectTold", unfollowed := true, recurses := true, apart := false }
def SectToldSaid : Prop := sectToldRow.holds Try.pinned (OpenSpec.ofChange sectToldSpec)

/-- ITS FALSE NEIGHBOUR: 'it returns false'. Refute it at one input. -/
def sectToldWrong : ChangeSpec := { name := "sectTold", fn := fun _ => fun
  | [d] => { results := [.lit (.bool false)], args := [d] }
  | _ => none }
def SectToldWrongFalsely : Prop := sectToldRow.holds Try.pinned (OpenSpec.ofChange sectToldWrong)

/-- 'avocetlaw07.SectCustom': WHATEVER THE INPUT: true; the input reads as it did. -/
def sectCustomSpec : ChangeSpec := { name := "sectCustom", fn := fun _ => fun
  | [d1, d2, d3, d4] => { results := [.lit (.bool true)], args := [d1, d2, d3, d4] }
  | _ => none }
def sectCustomRow : OpenClaim := { program := "ytkdnhhhgggmapaa", sum := "ed9bfe0e8dc8db0c9e1fad43e2d4247ed81abc7e50981b55b3e962a8fc691ffe", func := "avocet/avocetlaw07.SectCustom", spec := "sectCustom", unfollowed := true, recurses := true, apart := false }
def SectCustomSaid : Prop := sectCustomRow.holds Try.pinned (OpenSpec.ofChange sectCustomSpec)

/-- ITS FALSE NEIGHBOUR: 'it returns false'. Refute it at one input. -/
def sectCustomWrong : ChangeSpec := { name := "sectCustom", fn := fun _ => fun
  | [d1, d2, d3, d4] => { results := [.lit (.bool false)], args := [d1, d2, d3, d4] }
  | _ => none }
def SectCustomWrongFalsely : Prop := sectCustomRow.holds Try.pinned (OpenSpec.ofChange sectCustomWrong)

/-- 'avocetlaw07.SectFinds': WHATEVER THE INPUT: true; the input reads as it did. -/
def sectFindsSpec : ChangeSpec := { name := "sectFinds", fn := fun _ => fun
  | [d1, d2] => { results := [.lit (.bool true)], args := [d1, d2] }
  | _ => none }
def sectFindsRow : OpenClaim := { program := "ytkdnhhhgggmapaa", sum := "ed9bfe0e8dc8db0c9e1fad43e2d4247ed81abc7e50981b55b3e962a8fc691ffe", func := "avocet/avocetlaw07.SectFinds", spec := "sectFinds", unfollowed := true, recurses := true, apart := false }
def SectFindsSaid : Prop := sectFindsRow.holds Try.pinned (OpenSpec.ofChange sectFindsSpec)

/-- ITS FALSE NEIGHBOUR: 'it returns false'. Refute it at one input. -/
def sectFindsWrong : ChangeSpec := { name := "sectFinds", fn := fun _ => fun
  | [d1, d2] => { results := [.lit (.bool false)], args := [d1, d2] }
  | _ => none }
def SectFindsWrongFalsely : Prop := sectFindsRow.holds Try.pinned (OpenSpec.ofChange sectFindsWrong)

/-- 'avocetlaw07.SectHeads': WHATEVER THE INPUT: true; the input reads as it did. -/
def sectHeadsSpec : ChangeSpec := { name := "sectHeads", fn := fun _ => fun
  | [d1, d2, d3] => { results := [.lit (.bool true)], args := [d1, d2, d3] }
  | _ => none }
def sectHeadsRow : OpenClaim := { program := "ytkdnhhhgggmapaa", sum := "ed9bfe0e8dc8db0c9e1fad43e2d4247ed81abc7e50981b55b3e962a8fc691ffe", func := "avocet/avocetlaw07.SectHeads", spec := "sectHeads", unfollowed := true, recurses := true, apart := false }
def SectHeadsSaid : Prop := sectHeadsRow.holds Try.pinned (OpenSpec.ofChange sectHeadsSpec)

/-- ITS FALSE NEIGHBOUR: 'it returns false'. Refute it at one input. -/
def sectHeadsWrong : ChangeSpec := { name := "sectHeads", fn := fun _ => fun
  | [d1, d2, d3] => { results := [.lit (.bool false)], args := [d1, d2, d3] }
  | _ => none }
def SectHeadsWrongFalsely : Prop := sectHeadsRow.holds Try.pinned (OpenSpec.ofChange sectHeadsWrong)

/- THE SECOND FORM. 'bulk': how many values and letters a reading holds, each counted each time it is reached (what is shared counts as often as it is met; a slice's spare places count too). A statement '..UptoSaid' is the law's where the arguments, and the package variables that the reading takes, are together of bulk at most 1048576: NARROWER than '..Said'. Prove '..Said' where nothing that the law and all that it calls make is longer than what came in: it says more and counts as full. Else prove '..UptoSaid'. A law counts once. -/
mutual
def uptoBulk {H : Type} : DataW H → Nat
  | .lit (.string bytes) => bytes.length + 1
  | .lit _ => 1
  | .nil => 1
  | .ptr d => uptoBulk d + 1
  | .slice elems spare => uptoBulkAll elems + uptoBulkAll spare + 1
  | .agg parts => uptoBulkAll parts + 1
  | .iface _ d => uptoBulk d + 1
  | .map entries => uptoBulkEntries entries + 1
  | .held _ => 1
def uptoBulkAll {H : Type} : List (DataW H) → Nat
  | [] => 0
  | d :: r => uptoBulk d + uptoBulkAll r
def uptoBulkEntries {H : Type} : List (Lit × DataW H) → Nat
  | [] => 0
  | x :: r => uptoBulkEntry x + uptoBulkEntries r
def uptoBulkEntry {H : Type} : Lit × DataW H → Nat
  | (.string bytes, d) => bytes.length + uptoBulk d + 1
  | (_, d) => uptoBulk d + 1
 end
def uptoSmall : (H : Type) → List (DataW H) → Bool := fun _ ds => decide (uptoBulkAll ds ≤ 1048576)
def OpenSpec.upto (s : _root_.Go.ChangeSpec) : _root_.Go.OpenSpec := { _root_.Go.OpenSpec.ofChange s with cond := some uptoSmall }

/-- 'avocetlaw07.SectIs', WHERE WHAT IT READS IS OF BULK AT MOST 1048576: true; the input reads as it did. -/
def sectIsUptoRow : OpenClaim := { program := "ytkdnhhhgggmapaa", sum := "ed9bfe0e8dc8db0c9e1fad43e2d4247ed81abc7e50981b55b3e962a8fc691ffe", func := "avocet/avocetlaw07.SectIs", spec := "sectIs", unfollowed := true, recurses := true, apart := false, narrowed := true }
def SectIsUptoSaid : Prop := sectIsUptoRow.holds Try.pinned (OpenSpec.upto sectIsSpec)

/-- 'avocetlaw07.SectBack', WHERE WHAT IT READS IS OF BULK AT MOST 1048576: true; the input reads as it did. -/
def sectBackUptoRow : OpenClaim := { program := "ytkdnhhhgggmapaa", sum := "ed9bfe0e8dc8db0c9e1fad43e2d4247ed81abc7e50981b55b3e962a8fc691ffe", func := "avocet/avocetlaw07.SectBack", spec := "sectBack", unfollowed := true, recurses := true, apart := false, narrowed := true }
def SectBackUptoSaid : Prop := sectBackUptoRow.holds Try.pinned (OpenSpec.upto sectBackSpec)

/-- 'avocetlaw07.SectTold', WHERE WHAT IT READS IS OF BULK AT MOST 1048576: true; the input reads as it did. -/
def sectToldUptoRow : OpenClaim := { program := "ytkdnhhhgggmapaa", sum := "ed9bfe0e8dc8db0c9e1fad43e2d4247ed81abc7e50981b55b3e962a8fc691ffe", func := "avocet/avocetlaw07.SectTold", spec := "sectTold", unfollowed := true, recurses := true, apart := false, narrowed := true }
def SectToldUptoSaid : Prop := sectToldUptoRow.holds Try.pinned (OpenSpec.upto sectToldSpec)

/-- 'avocetlaw07.SectCustom', WHERE WHAT IT READS IS OF BULK AT MOST 1048576: true; the input reads as it did. -/
def sectCustomUptoRow : OpenClaim := { program := "ytkdnhhhgggmapaa", sum := "ed9bfe0e8dc8db0c9e1fad43e2d4247ed81abc7e50981b55b3e962a8fc691ffe", func := "avocet/avocetlaw07.SectCustom", spec := "sectCustom", unfollowed := true, recurses := true, apart := false, narrowed := true }
def SectCustomUptoSaid : Prop := sectCustomUptoRow.holds Try.pinned (OpenSpec.upto sectCustomSpec)

/-- 'avocetlaw07.SectFinds', WHERE WHAT IT READS IS OF BULK AT MOST 1048576: true; the input reads as it did. -/
def sectFindsUptoRow : OpenClaim := { program := "ytkdnhhhgggmapaa", sum := "ed9bfe0e8dc8db0c9e1fad43e2d4247ed81abc7e50981b55b3e962a8fc691ffe", func := "avocet/avocetlaw07.SectFinds", spec := "sectFinds", unfollowed := true, recurses := true, apart := false, narrowed := true }
def SectFindsUptoSaid : Prop := sectFindsUptoRow.holds Try.pinned (OpenSpec.upto sectFindsSpec)

/-- 'avocetlaw07.SectHeads', WHERE WHAT IT READS IS OF BULK AT MOST 1048576: true; the input reads as it did. -/
def sectHeadsUptoRow : OpenClaim := { program := "ytkdnhhhgggmapaa", sum := "ed9bfe0e8dc8db0c9e1fad43e2d4247ed81abc7e50981b55b3e962a8fc691ffe", func := "avocet/avocetlaw07.SectHeads", spec := "sectHeads", unfollowed := true, recurses := true, apart := false, narrowed := true }
def SectHeadsUptoSaid : Prop := sectHeadsUptoRow.holds Try.pinned (OpenSpec.upto sectHeadsSpec)

end Rows
end Go.Proofs.Ytkdnhhhgggmapaa
