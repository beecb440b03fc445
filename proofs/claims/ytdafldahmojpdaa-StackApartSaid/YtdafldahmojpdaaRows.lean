/-
  No cell of these rows narrows 'for every input' (looked for: loops, veiled, ifaces, maps, wideKeys, modest, calm, conditions, laid).
  DERIVED. THE GIVEN ROWS OF THIS SEAT. 6 by the template 'for every input the law returns true; each argument reads behind the call as it read before'; 0 by the template 'total and deterministic' (their statements: YtdafldahmojpdaaTotals.lean).
  GIVEN WITH THE SEED: the statements are not yours to turn. If you find one false, say at which input.
  Laid BY PROGRAM, IN A SANDBOX (cutbox-rows.mjs): the forced cells as the released guide's own fill.sh prints them over the translation 70044407dc6cefeb… (all of the seat's roots in one cut). By AI agents, Wed Nov 11 2026. No macro, syntax, notation, axiom, sorry.
-/
import Derived.Test.YtdafldahmojpdaaChecked
import GoSem.Claim
import GoSem.ClaimJoined
import GoSem.ClaimMapViews
import Derived.JoinedTies
import Derived.KernelRfl
namespace Go.Proofs.Ytdafldahmojpdaa
/- THE CELL 'sum', in the pinned program and in every row, IS THE sha256 OF THE DUMP (.gsa) THAT YtdafldahmojpdaaProg.lean LOADS. Nothing in Lean hashes anything: it is a label: what it is worth is what the hold of that sum in a sandbox is worth. -/
noncomputable def Try.pinned : Pinned := { name := "ytdafldahmojpdaa", sum := "70044407dc6cefeb3363b19b7981b56d517da8f68aebfa4c62503f653cb38b9d", checked := Try.checked }
namespace Rows
def none {H : Type} : Left H := { results := [], args := [] }

/-- 'avocetlaw09.StackIs': WHATEVER THE INPUT: true; the input reads as it did. -/
def stackIsSpec : ChangeSpec := { name := "stackIs", fn := fun _ => fun
  | [d1, d2, d3, d4] => { results := [.lit (.bool true)], args := [d1, d2, d3, d4] }
  | _ => none }
def stackIsRow : OpenClaim := { program := "ytdafldahmojpdaa", sum := "70044407dc6cefeb3363b19b7981b56d517da8f68aebfa4c62503f653cb38b9d", func := "avocet/avocetlaw09.StackIs", spec := "stackIs", unfollowed := true, recurses := true, apart := false }
def StackIsSaid : Prop := stackIsRow.holds Try.pinned (OpenSpec.ofChange stackIsSpec)

/-- ITS FALSE NEIGHBOUR: 'it returns false'. Refute it at one input. -/
def stackIsWrong : ChangeSpec := { name := "stackIs", fn := fun _ => fun
  | [d1, d2, d3, d4] => { results := [.lit (.bool false)], args := [d1, d2, d3, d4] }
  | _ => none }
def StackIsWrongFalsely : Prop := stackIsRow.holds Try.pinned (OpenSpec.ofChange stackIsWrong)

/-- 'avocetlaw09.StackGrows': WHATEVER THE INPUT: true; the input reads as it did. -/
def stackGrowsSpec : ChangeSpec := { name := "stackGrows", fn := fun _ => fun
  | [d] => { results := [.lit (.bool true)], args := [d] }
  | _ => none }
def stackGrowsRow : OpenClaim := { program := "ytdafldahmojpdaa", sum := "70044407dc6cefeb3363b19b7981b56d517da8f68aebfa4c62503f653cb38b9d", func := "avocet/avocetlaw09.StackGrows", spec := "stackGrows", unfollowed := true, recurses := true, apart := false }
def StackGrowsSaid : Prop := stackGrowsRow.holds Try.pinned (OpenSpec.ofChange stackGrowsSpec)

/-- ITS FALSE NEIGHBOUR: 'it returns false'. Refute it at one input. -/
def stackGrowsWrong : ChangeSpec := { name := "stackGrows", fn := fun _ => fun
  | [d] => { results := [.lit (.bool false)], args := [d] }
  | _ => none }
def StackGrowsWrongFalsely : Prop := stackGrowsRow.holds Try.pinned (OpenSpec.ofChange stackGrowsWrong)

/-- 'avocetlaw09.StackBack': WHATEVER THE INPUT: true; the input reads as it did. -/
def stackBackSpec : ChangeSpec := { name := "stackBack", fn := fun _ => fun
  | [d1, d2, d3] => { results := [.lit (.bool true)], args := [d1, d2, d3] }
  | _ => none }
def stackBackRow : OpenClaim := { program := "ytdafldahmojpdaa", sum := "70044407dc6cefeb3363b19b7981b56d517da8f68aebfa4c62503f653cb38b9d", func := "avocet/avocetlaw09.StackBack", spec := "stackBack", unfollowed := true, recurses := true, apart := false }
def StackBackSaid : Prop := stackBackRow.holds Try.pinned (OpenSpec.ofChange stackBackSpec)

/-- ITS FALSE NEIGHBOUR: 'it returns false'. Refute it at one input. -/
def stackBackWrong : ChangeSpec := { name := "stackBack", fn := fun _ => fun
  | [d1, d2, d3] => { results := [.lit (.bool false)], args := [d1, d2, d3] }
  | _ => none }
def StackBackWrongFalsely : Prop := stackBackRow.holds Try.pinned (OpenSpec.ofChange stackBackWrong)

/-- 'avocetlaw09.StackDead': WHATEVER THE INPUT: true; the input reads as it did. -/
def stackDeadSpec : ChangeSpec := { name := "stackDead", fn := fun _ => fun
  | [d1, d2] => { results := [.lit (.bool true)], args := [d1, d2] }
  | _ => none }
def stackDeadRow : OpenClaim := { program := "ytdafldahmojpdaa", sum := "70044407dc6cefeb3363b19b7981b56d517da8f68aebfa4c62503f653cb38b9d", func := "avocet/avocetlaw09.StackDead", spec := "stackDead", unfollowed := true, recurses := true, apart := false }
def StackDeadSaid : Prop := stackDeadRow.holds Try.pinned (OpenSpec.ofChange stackDeadSpec)

/-- ITS FALSE NEIGHBOUR: 'it returns false'. Refute it at one input. -/
def stackDeadWrong : ChangeSpec := { name := "stackDead", fn := fun _ => fun
  | [d1, d2] => { results := [.lit (.bool false)], args := [d1, d2] }
  | _ => none }
def StackDeadWrongFalsely : Prop := stackDeadRow.holds Try.pinned (OpenSpec.ofChange stackDeadWrong)

/-- 'avocetlaw09.StackLabels': WHATEVER THE INPUT: true; the input reads as it did. -/
def stackLabelsSpec : ChangeSpec := { name := "stackLabels", fn := fun _ => fun
  | [d1, d2] => { results := [.lit (.bool true)], args := [d1, d2] }
  | _ => none }
def stackLabelsRow : OpenClaim := { program := "ytdafldahmojpdaa", sum := "70044407dc6cefeb3363b19b7981b56d517da8f68aebfa4c62503f653cb38b9d", func := "avocet/avocetlaw09.StackLabels", spec := "stackLabels", unfollowed := true, recurses := true, apart := false }
def StackLabelsSaid : Prop := stackLabelsRow.holds Try.pinned (OpenSpec.ofChange stackLabelsSpec)

/-- ITS FALSE NEIGHBOUR: 'it returns false'. Refute it at one input. -/
def stackLabelsWrong : ChangeSpec := { name := "stackLabels", fn := fun _ => fun
  | [d1, d2] => { results := [.lit (.bool false)], args := [d1, d2] }
  | _ => none }
def StackLabelsWrongFalsely : Prop := stackLabelsRow.holds Try.pinned (OpenSpec.ofChange stackLabelsWrong)

/-- 'avocetlaw09.StackApart': WHATEVER THE INPUT: true; the input reads as it did. -/
def stackApartSpec : ChangeSpec := { name := "stackApart", fn := fun _ => fun
  | [d1, d2] => { results := [.lit (.bool true)], args := [d1, d2] }
  | _ => none }
def stackApartRow : OpenClaim := { program := "ytdafldahmojpdaa", sum := "70044407dc6cefeb3363b19b7981b56d517da8f68aebfa4c62503f653cb38b9d", func := "avocet/avocetlaw09.StackApart", spec := "stackApart", unfollowed := true, recurses := true, apart := false }
def StackApartSaid : Prop := stackApartRow.holds Try.pinned (OpenSpec.ofChange stackApartSpec)

/-- ITS FALSE NEIGHBOUR: 'it returns false'. Refute it at one input. -/
def stackApartWrong : ChangeSpec := { name := "stackApart", fn := fun _ => fun
  | [d1, d2] => { results := [.lit (.bool false)], args := [d1, d2] }
  | _ => none }
def StackApartWrongFalsely : Prop := stackApartRow.holds Try.pinned (OpenSpec.ofChange stackApartWrong)

/- THE SECOND FORM. 'bulk': how many values and letters a reading holds, each counted each time it is reached (what is shared counts as often as it is met; a slice's spare places count too). A statement '..UptoSaid' is the law's where the arguments, and the package variables that the reading takes, are together of bulk at most 1048576: NARROWER than '..Said'. Prove '..Said' where nothing that the law and all that it calls make is longer than what came in: it says more and counts as full. Else prove '..UptoSaid'. A law counts once. -/
mutual
def uptoBulk {H : Type} : DataW H → Nat
  | .lit (.string bytes) => bytes.length + 1
  | .lit _ => 1
  | .nil => 1
  | .ptr d => uptoBulk d + 1
  | .slice elems spare => uptoBulkAll elems + uptoBulkAll spare + 1
  | .agg parts => uptoBulkAll parts + 1
  | .iface _ d => uptoBulk d + 1
  | .map entries => uptoBulkEntries entries + 1
  | .held _ => 1
def uptoBulkAll {H : Type} : List (DataW H) → Nat
  | [] => 0
  | d :: r => uptoBulk d + uptoBulkAll r
def uptoBulkEntries {H : Type} : List (Lit × DataW H) → Nat
  | [] => 0
  | x :: r => uptoBulkEntry x + uptoBulkEntries r
def uptoBulkEntry {H : Type} : Lit × DataW H → Nat
  | (.string bytes, d) => bytes.length + uptoBulk d + 1
  | (_, d) => uptoBulk d + 1
 end
def uptoSmall : (H : Type) → List (DataW H) → Bool := fun _ ds => decide (uptoBulkAll ds ≤ 1048576)
def OpenSpec.upto (s : _root_.Go.ChangeSpec) : _root_.Go.OpenSpec := { _root_.Go.OpenSpec.ofChange s with cond := some uptoSmall }

/-- 'avocetlaw09.StackIs', WHERE WHAT IT READS IS OF BULK AT MOST 1048576: true; the input reads as it did. -/
def stackIsUptoRow : OpenClaim := { program := "ytdafldahmojpdaa", sum := "70044407dc6cefeb3363b19b7981b56d517da8f68aebfa4c62503f653cb38b9d", func := "avocet/avocetlaw09.StackIs", spec := "stackIs", unfollowed := true, recurses := true, apart := false, narrowed := true }
def StackIsUptoSaid : Prop := stackIsUptoRow.holds Try.pinned (OpenSpec.upto stackIsSpec)

/-- 'avocetlaw09.StackGrows', WHERE WHAT IT READS IS OF BULK AT MOST 1048576: true; the input reads as it did. -/
def stackGrowsUptoRow : OpenClaim := { program := "ytdafldahmojpdaa", sum := "70044407dc6cefeb3363b19b7981b56d517da8f68aebfa4c62503f653cb38b9d", func := "avocet/avocetlaw09.StackGrows", spec := "stackGrows", unfollowed := true, recurses := true, apart := false, narrowed := true }
def StackGrowsUptoSaid : Prop := stackGrowsUptoRow.holds Try.pinned (OpenSpec.upto stackGrowsSpec)

/-- 'avocetlaw09.StackBack', WHERE WHAT IT READS IS OF BULK AT MOST 1048576: true; the input reads as it did. -/
def stackBackUptoRow : OpenClaim := { program := "ytdafldahmojpdaa", sum := "70044407dc6cefeb3363b19b7981b56d517da8f68aebfa4c62503f653cb38b9d", func := "avocet/avocetlaw09.StackBack", spec := "stackBack", unfollowed := true, recurses := true, apart := false, narrowed := true }
def StackBackUptoSaid : Prop := stackBackUptoRow.holds Try.pinned (OpenSpec.upto stackBackSpec)

/-- 'avocetlaw09.StackDead', WHERE WHAT IT READS IS OF BULK AT MOST 1048576: true; the input reads as it did. -/
def stackDeadUptoRow : OpenClaim := { program := "ytdafldahmojpdaa", sum := "70044407dc6cefeb3363b19b7981b56d517da8f68aebfa4c62503f653cb38b9d", func := "avocet/avocetlaw09.StackDead", spec := "stackDead", unfollowed := true, recurses := true, apart := false, narrowed := true }
def StackDeadUptoSaid : Prop := stackDeadUptoRow.holds Try.pinned (OpenSpec.upto stackDeadSpec)

/-- 'avocetlaw09.StackLabels', WHERE WHAT IT READS IS OF BULK AT MOST 1048576: true; the input reads as it did. -/
def stackLabelsUptoRow : OpenClaim := { program := "ytdafldahmojpdaa", sum := "70044407dc6cefeb3363b19b7981b56d517da8f68aebfa4c62503f653cb38b9d", func := "avocet/avocetlaw09.StackLabels", spec := "stackLabels", unfollowed := true, recurses := true, apart := false, narrowed := true }
def StackLabelsUptoSaid : Prop := stackLabelsUptoRow.holds Try.pinned (OpenSpec.upto stackLabelsSpec)

/-- 'avocetlaw09.StackApart', WHERE WHAT IT READS IS OF BULK AT MOST 1048576: true; the input reads as it did. -/
def stackApartUptoRow : OpenClaim := { program := "ytdafldahmojpdaa", sum := "70044407dc6cefeb3363b19b7981b56d517da8f68aebfa4c62503f653cb38b9d", func := "avocet/avocetlaw09.StackApart", spec := "stackApart", unfollowed := true, recurses := true, apart := false, narrowed := true }
def StackApartUptoSaid : Prop := stackApartUptoRow.holds Try.pinned (OpenSpec.upto stackApartSpec)

end Rows
end Go.Proofs.Ytdafldahmojpdaa
