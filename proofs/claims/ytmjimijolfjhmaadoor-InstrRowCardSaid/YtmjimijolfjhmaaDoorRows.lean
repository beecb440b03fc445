/-
  NARROWER THAN 'FOR EVERY INPUT', by the rows' own cells (each row's printed sentence says how): InstrIs: laid · InstrBack: laid · InstrTold: laid · InstrOps: laid · InstrRow: laid · InstrSame: laid.
  DERIVED. THE GIVEN ROWS OF THIS SEAT. 6 by the template 'for every input the law returns true; each argument reads behind the call as it read before'; 0 by the template 'total and deterministic' (their statements: YtmjimijolfjhmaaDoorTotals.lean).
  GIVEN WITH THE SEED: the statements are not yours to turn. If you find one false, say at which input.
  Laid BY PROGRAM, IN A SANDBOX (cutbox-rows.mjs): the forced cells as the released guide's own fill.sh prints them over the translation 72c0e058dad54cad… (all of the seat's roots in one cut). By AI agents, Wed Nov 11 2026. No macro, syntax, notation, axiom, sorry.
-/
import Derived.Test.YtmjimijolfjhmaaDoorChecked
import GoSem.Claim
import GoSem.ClaimJoined
import GoSem.ClaimMapViews
import Derived.JoinedTies
import Derived.KernelRfl
namespace Go.Proofs.YtmjimijolfjhmaaDoor
/- THE CELL 'sum', in the pinned program and in every row, IS THE sha256 OF THE DUMP (.gsa) THAT YtmjimijolfjhmaaDoorProg.lean LOADS. Nothing in Lean hashes anything: it is a label: what it is worth is what the hold of that sum in a sandbox is worth. -/
noncomputable def Tryd.pinned : Pinned := { name := "ytmjimijolfjhmaadoor", sum := "72c0e058dad54cad1ce635a67fe230689968c489fdb9ca94917714d4dc32b106", checked := Tryd.checked }
namespace Rows
def none {H : Type} : Left H := { results := [], args := [] }

/- WHAT THE LISTED PACKAGE-LEVEL VARIABLES READ AS WHEN THE CALL BEGINS. Each datum BY PROGRAM (the guide's laid-datum.mjs) off the statement by which the dump's own 'gosem.cut.vars' lays the variable. In a bare row this is a premise. The card (YtmjimijolfjhmaaDoorCards.lean) ties it to the program's text. -/
def laid_avocet_instr_kinds {H : Type} : DataW H := .agg [.lit (.int .u8 1), .lit (.int .u8 1), .lit (.int .u8 2), .lit (.int .u8 2), .lit (.int .u8 2), .lit (.int .u8 1), .lit (.int .u8 0), .lit (.int .u8 0), .lit (.int .u8 0), .lit (.int .u8 0), .lit (.int .u8 0), .lit (.int .u8 1), .lit (.int .u8 3), .lit (.int .u8 3), .lit (.int .u8 4), .lit (.int .u8 1), .lit (.int .u8 3), .lit (.int .u8 5), .lit (.int .u8 0), .lit (.int .u8 0), .lit (.int .u8 0), .lit (.int .u8 0), .lit (.int .u8 0), .lit (.int .u8 0), .lit (.int .u8 0), .lit (.int .u8 0), .lit (.int .u8 1), .lit (.int .u8 1), .lit (.int .u8 0), .lit (.int .u8 0), .lit (.int .u8 0), .lit (.int .u8 0), .lit (.int .u8 3), .lit (.int .u8 3), .lit (.int .u8 3), .lit (.int .u8 3), .lit (.int .u8 3), .lit (.int .u8 0), .lit (.int .u8 0), .lit (.int .u8 0), .lit (.int .u8 6), .lit (.int .u8 6), .lit (.int .u8 0), .lit (.int .u8 0), .lit (.int .u8 6), .lit (.int .u8 6), .lit (.int .u8 6), .lit (.int .u8 6), .lit (.int .u8 6), .lit (.int .u8 6), .lit (.int .u8 6), .lit (.int .u8 6), .lit (.int .u8 6), .lit (.int .u8 6), .lit (.int .u8 6), .lit (.int .u8 6), .lit (.int .u8 0), .lit (.int .u8 0), .lit (.int .u8 6), .lit (.int .u8 6), .lit (.int .u8 6), .lit (.int .u8 6), .lit (.int .u8 6), .lit (.int .u8 7), .lit (.int .u8 7), .lit (.int .u8 8), .lit (.int .u8 9), .lit (.int .u8 0), .lit (.int .u8 0), .lit (.int .u8 1), .lit (.int .u8 1), .lit (.int .u8 1), .lit (.int .u8 1), .lit (.int .u8 1), .lit (.int .u8 1), .lit (.int .u8 1), .lit (.int .u8 1), .lit (.int .u8 1), .lit (.int .u8 1), .lit (.int .u8 1), .lit (.int .u8 1), .lit (.int .u8 1), .lit (.int .u8 1), .lit (.int .u8 1), .lit (.int .u8 1), .lit (.int .u8 1), .lit (.int .u8 1), .lit (.int .u8 1), .lit (.int .u8 1), .lit (.int .u8 1), .lit (.int .u8 1), .lit (.int .u8 0), .lit (.int .u8 0), .lit (.int .u8 0), .lit (.int .u8 0), .lit (.int .u8 0), .lit (.int .u8 0), .lit (.int .u8 0), .lit (.int .u8 0), .lit (.int .u8 0), .lit (.int .u8 0), .lit (.int .u8 0), .lit (.int .u8 0), .lit (.int .u8 1), .lit (.int .u8 1), .lit (.int .u8 1), .lit (.int .u8 1), .lit (.int .u8 1), .lit (.int .u8 1), .lit (.int .u8 1), .lit (.int .u8 1), .lit (.int .u8 1), .lit (.int .u8 1), .lit (.int .u8 1), .lit (.int .u8 1), .lit (.int .u8 1), .lit (.int .u8 1), .lit (.int .u8 1), .lit (.int .u8 1), .lit (.int .u8 1), .lit (.int .u8 1), .lit (.int .u8 1), .lit (.int .u8 1), .lit (.int .u8 1), .lit (.int .u8 1), .lit (.int .u8 1), .lit (.int .u8 1), .lit (.int .u8 1), .lit (.int .u8 1), .lit (.int .u8 1), .lit (.int .u8 1), .lit (.int .u8 1), .lit (.int .u8 1), .lit (.int .u8 1), .lit (.int .u8 1), .lit (.int .u8 1), .lit (.int .u8 1), .lit (.int .u8 1), .lit (.int .u8 1), .lit (.int .u8 0), .lit (.int .u8 0), .lit (.int .u8 0), .lit (.int .u8 0), .lit (.int .u8 0), .lit (.int .u8 0), .lit (.int .u8 0), .lit (.int .u8 0), .lit (.int .u8 0), .lit (.int .u8 0), .lit (.int .u8 0), .lit (.int .u8 0), .lit (.int .u8 0), .lit (.int .u8 0), .lit (.int .u8 0), .lit (.int .u8 0), .lit (.int .u8 0), .lit (.int .u8 0), .lit (.int .u8 0), .lit (.int .u8 0), .lit (.int .u8 0), .lit (.int .u8 0), .lit (.int .u8 0), .lit (.int .u8 0), .lit (.int .u8 0), .lit (.int .u8 0), .lit (.int .u8 0), .lit (.int .u8 0), .lit (.int .u8 1), .lit (.int .u8 0), .lit (.int .u8 0), .lit (.int .u8 0), .lit (.int .u8 0), .lit (.int .u8 1), .lit (.int .u8 1)]
def laid_avocet_instr_accesses {H : Type} : DataW H := .agg [.agg [.lit (.int .u8 127), .lit (.int .i64 4), .lit (.bool false), .lit (.bool false)], .agg [.lit (.int .u8 126), .lit (.int .i64 8), .lit (.bool false), .lit (.bool false)], .agg [.lit (.int .u8 0), .lit (.int .i64 0), .lit (.bool false), .lit (.bool false)], .agg [.lit (.int .u8 0), .lit (.int .i64 0), .lit (.bool false), .lit (.bool false)], .agg [.lit (.int .u8 127), .lit (.int .i64 1), .lit (.bool true), .lit (.bool false)], .agg [.lit (.int .u8 127), .lit (.int .i64 1), .lit (.bool false), .lit (.bool false)], .agg [.lit (.int .u8 127), .lit (.int .i64 2), .lit (.bool true), .lit (.bool false)], .agg [.lit (.int .u8 127), .lit (.int .i64 2), .lit (.bool false), .lit (.bool false)], .agg [.lit (.int .u8 126), .lit (.int .i64 1), .lit (.bool true), .lit (.bool false)], .agg [.lit (.int .u8 126), .lit (.int .i64 1), .lit (.bool false), .lit (.bool false)], .agg [.lit (.int .u8 126), .lit (.int .i64 2), .lit (.bool true), .lit (.bool false)], .agg [.lit (.int .u8 126), .lit (.int .i64 2), .lit (.bool false), .lit (.bool false)], .agg [.lit (.int .u8 126), .lit (.int .i64 4), .lit (.bool true), .lit (.bool false)], .agg [.lit (.int .u8 126), .lit (.int .i64 4), .lit (.bool false), .lit (.bool false)], .agg [.lit (.int .u8 127), .lit (.int .i64 4), .lit (.bool false), .lit (.bool true)], .agg [.lit (.int .u8 126), .lit (.int .i64 8), .lit (.bool false), .lit (.bool true)], .agg [.lit (.int .u8 0), .lit (.int .i64 0), .lit (.bool false), .lit (.bool false)], .agg [.lit (.int .u8 0), .lit (.int .i64 0), .lit (.bool false), .lit (.bool false)], .agg [.lit (.int .u8 127), .lit (.int .i64 1), .lit (.bool false), .lit (.bool true)], .agg [.lit (.int .u8 127), .lit (.int .i64 2), .lit (.bool false), .lit (.bool true)], .agg [.lit (.int .u8 126), .lit (.int .i64 1), .lit (.bool false), .lit (.bool true)], .agg [.lit (.int .u8 126), .lit (.int .i64 2), .lit (.bool false), .lit (.bool true)], .agg [.lit (.int .u8 126), .lit (.int .i64 4), .lit (.bool false), .lit (.bool true)]]

/-- 'avocetlaw05.InstrIs': WHATEVER THE INPUT: true; the input reads as it did. -/
def instrIsSpec : ChangeSpec := { name := "instrIs", fn := fun _ => fun
  | [d1, d2, d3, d4, d5] => { results := [.lit (.bool true)], args := [d1, d2, d3, d4, d5] }
  | _ => none }
def instrIsRow : OpenClaim := { program := "ytmjimijolfjhmaadoor", sum := "72c0e058dad54cad1ce635a67fe230689968c489fdb9ca94917714d4dc32b106", func := "avocet/avocetlaw05.InstrIs", spec := "instrIs", unfollowed := true, recurses := true, named := ["avocet/instr.kinds", "avocet/instr.accesses"], apart := false, laid := [("avocet/instr.kinds", laid_avocet_instr_kinds), ("avocet/instr.accesses", laid_avocet_instr_accesses)] }
def InstrIsSaid : Prop := instrIsRow.holds Tryd.pinned (OpenSpec.ofChange instrIsSpec)

/-- ITS FALSE NEIGHBOUR: 'it returns false'. Refute it at one input. -/
def instrIsWrong : ChangeSpec := { name := "instrIs", fn := fun _ => fun
  | [d1, d2, d3, d4, d5] => { results := [.lit (.bool false)], args := [d1, d2, d3, d4, d5] }
  | _ => none }
def InstrIsWrongFalsely : Prop := instrIsRow.holds Tryd.pinned (OpenSpec.ofChange instrIsWrong)

/-- 'avocetlaw05.InstrBack': WHATEVER THE INPUT: true; the input reads as it did. -/
def instrBackSpec : ChangeSpec := { name := "instrBack", fn := fun _ => fun
  | [d1, d2, d3] => { results := [.lit (.bool true)], args := [d1, d2, d3] }
  | _ => none }
def instrBackRow : OpenClaim := { program := "ytmjimijolfjhmaadoor", sum := "72c0e058dad54cad1ce635a67fe230689968c489fdb9ca94917714d4dc32b106", func := "avocet/avocetlaw05.InstrBack", spec := "instrBack", unfollowed := true, recurses := true, named := ["avocet/instr.kinds"], apart := false, laid := [("avocet/instr.kinds", laid_avocet_instr_kinds)] }
def InstrBackSaid : Prop := instrBackRow.holds Tryd.pinned (OpenSpec.ofChange instrBackSpec)

/-- ITS FALSE NEIGHBOUR: 'it returns false'. Refute it at one input. -/
def instrBackWrong : ChangeSpec := { name := "instrBack", fn := fun _ => fun
  | [d1, d2, d3] => { results := [.lit (.bool false)], args := [d1, d2, d3] }
  | _ => none }
def InstrBackWrongFalsely : Prop := instrBackRow.holds Tryd.pinned (OpenSpec.ofChange instrBackWrong)

/-- 'avocetlaw05.InstrTold': WHATEVER THE INPUT: true; the input reads as it did. -/
def instrToldSpec : ChangeSpec := { name := "instrTold", fn := fun _ => fun
  | [d] => { results := [.lit (.bool true)], args := [d] }
  | _ => none }
def instrToldRow : OpenClaim := { program := "ytmjimijolfjhmaadoor", sum := "72c0e058dad54cad1ce635a67fe230689968c489fdb9ca94917714d4dc32b106", func := "avocet/avocetlaw05.InstrTold", spec := "instrTold", unfollowed := true, recurses := true, named := ["avocet/instr.kinds"], apart := false, laid := [("avocet/instr.kinds", laid_avocet_instr_kinds)] }
def InstrToldSaid : Prop := instrToldRow.holds Tryd.pinned (OpenSpec.ofChange instrToldSpec)

/-- ITS FALSE NEIGHBOUR: 'it returns false'. Refute it at one input. -/
def instrToldWrong : ChangeSpec := { name := "instrTold", fn := fun _ => fun
  | [d] => { results := [.lit (.bool false)], args := [d] }
  | _ => none }
def InstrToldWrongFalsely : Prop := instrToldRow.holds Tryd.pinned (OpenSpec.ofChange instrToldWrong)

/-- 'avocetlaw05.InstrOps': WHATEVER THE INPUT: true; the input reads as it did. -/
def instrOpsSpec : ChangeSpec := { name := "instrOps", fn := fun _ => fun
  | [d] => { results := [.lit (.bool true)], args := [d] }
  | _ => none }
def instrOpsRow : OpenClaim := { program := "ytmjimijolfjhmaadoor", sum := "72c0e058dad54cad1ce635a67fe230689968c489fdb9ca94917714d4dc32b106", func := "avocet/avocetlaw05.InstrOps", spec := "instrOps", unfollowed := true, recurses := true, named := ["avocet/instr.kinds", "avocet/instr.accesses"], apart := false, laid := [("avocet/instr.kinds", laid_avocet_instr_kinds), ("avocet/instr.accesses", laid_avocet_instr_accesses)] }
def InstrOpsSaid : Prop := instrOpsRow.holds Tryd.pinned (OpenSpec.ofChange instrOpsSpec)

/-- ITS FALSE NEIGHBOUR: 'it returns false'. Refute it at one input. -/
def instrOpsWrong : ChangeSpec := { name := "instrOps", fn := fun _ => fun
  | [d] => { results := [.lit (.bool false)], args := [d] }
  | _ => none }
def InstrOpsWrongFalsely : Prop := instrOpsRow.holds Tryd.pinned (OpenSpec.ofChange instrOpsWrong)

/-- 'avocetlaw05.InstrRow': WHATEVER THE INPUT: true; the input reads as it did. -/
def instrRowSpec : ChangeSpec := { name := "instrRow", fn := fun _ => fun
  | [d] => { results := [.lit (.bool true)], args := [d] }
  | _ => none }
def instrRowRow : OpenClaim := { program := "ytmjimijolfjhmaadoor", sum := "72c0e058dad54cad1ce635a67fe230689968c489fdb9ca94917714d4dc32b106", func := "avocet/avocetlaw05.InstrRow", spec := "instrRow", unfollowed := true, recurses := true, named := ["avocet/instr.kinds"], apart := false, laid := [("avocet/instr.kinds", laid_avocet_instr_kinds)] }
def InstrRowSaid : Prop := instrRowRow.holds Tryd.pinned (OpenSpec.ofChange instrRowSpec)

/-- ITS FALSE NEIGHBOUR: 'it returns false'. Refute it at one input. -/
def instrRowWrong : ChangeSpec := { name := "instrRow", fn := fun _ => fun
  | [d] => { results := [.lit (.bool false)], args := [d] }
  | _ => none }
def InstrRowWrongFalsely : Prop := instrRowRow.holds Tryd.pinned (OpenSpec.ofChange instrRowWrong)

/-- 'avocetlaw05.InstrSame': WHATEVER THE INPUT: true; the input reads as it did. -/
def instrSameSpec : ChangeSpec := { name := "instrSame", fn := fun _ => fun
  | [d1, d2] => { results := [.lit (.bool true)], args := [d1, d2] }
  | _ => none }
def instrSameRow : OpenClaim := { program := "ytmjimijolfjhmaadoor", sum := "72c0e058dad54cad1ce635a67fe230689968c489fdb9ca94917714d4dc32b106", func := "avocet/avocetlaw05.InstrSame", spec := "instrSame", unfollowed := true, recurses := true, named := ["avocet/instr.kinds"], apart := false, laid := [("avocet/instr.kinds", laid_avocet_instr_kinds)] }
def InstrSameSaid : Prop := instrSameRow.holds Tryd.pinned (OpenSpec.ofChange instrSameSpec)

/-- ITS FALSE NEIGHBOUR: 'it returns false'. Refute it at one input. -/
def instrSameWrong : ChangeSpec := { name := "instrSame", fn := fun _ => fun
  | [d1, d2] => { results := [.lit (.bool false)], args := [d1, d2] }
  | _ => none }
def InstrSameWrongFalsely : Prop := instrSameRow.holds Tryd.pinned (OpenSpec.ofChange instrSameWrong)

/- THE SECOND FORM. 'bulk': how many values and letters a reading holds, each counted each time it is reached (what is shared counts as often as it is met; a slice's spare places count too). A statement '..UptoSaid' is the law's where the arguments, and the package variables that the reading takes, are together of bulk at most 1048576: NARROWER than '..Said'. Prove '..Said' where nothing that the law and all that it calls make is longer than what came in: it says more and counts as full. Else prove '..UptoSaid'. A law counts once. -/
mutual
def uptoBulk {H : Type} : DataW H → Nat
  | .lit (.string bytes) => bytes.length + 1
  | .lit _ => 1
  | .nil => 1
  | .ptr d => uptoBulk d + 1
  | .slice elems spare => uptoBulkAll elems + uptoBulkAll spare + 1
  | .agg parts => uptoBulkAll parts + 1
  | .iface _ d => uptoBulk d + 1
  | .map entries => uptoBulkEntries entries + 1
  | .held _ => 1
def uptoBulkAll {H : Type} : List (DataW H) → Nat
  | [] => 0
  | d :: r => uptoBulk d + uptoBulkAll r
def uptoBulkEntries {H : Type} : List (Lit × DataW H) → Nat
  | [] => 0
  | x :: r => uptoBulkEntry x + uptoBulkEntries r
def uptoBulkEntry {H : Type} : Lit × DataW H → Nat
  | (.string bytes, d) => bytes.length + uptoBulk d + 1
  | (_, d) => uptoBulk d + 1
 end
def uptoSmall : (H : Type) → List (DataW H) → Bool := fun _ ds => decide (uptoBulkAll ds ≤ 1048576)
def OpenSpec.upto (s : _root_.Go.ChangeSpec) : _root_.Go.OpenSpec := { _root_.Go.OpenSpec.ofChange s with cond := some uptoSmall }

/-- 'avocetlaw05.InstrIs', WHERE WHAT IT READS IS OF BULK AT MOST 1048576: true; the input reads as it did. -/
def instrIsUptoRow : OpenClaim := { program := "ytmjimijolfjhmaadoor", sum := "72c0e058dad54cad1ce635a67fe230689968c489fdb9ca94917714d4dc32b106", func := "avocet/avocetlaw05.InstrIs", spec := "instrIs", unfollowed := true, recurses := true, named := ["avocet/instr.kinds", "avocet/instr.accesses"], apart := false, laid := [("avocet/instr.kinds", laid_avocet_instr_kinds), ("avocet/instr.accesses", laid_avocet_instr_accesses)], narrowed := true }
def InstrIsUptoSaid : Prop := instrIsUptoRow.holds Tryd.pinned (OpenSpec.upto instrIsSpec)

/-- 'avocetlaw05.InstrBack', WHERE WHAT IT READS IS OF BULK AT MOST 1048576: true; the input reads as it did. -/
def instrBackUptoRow : OpenClaim := { program := "ytmjimijolfjhmaadoor", sum := "72c0e058dad54cad1ce635a67fe230689968c489fdb9ca94917714d4dc32b106", func := "avocet/avocetlaw05.InstrBack", spec := "instrBack", unfollowed := true, recurses := true, named := ["avocet/instr.kinds"], apart := false, laid := [("avocet/instr.kinds", laid_avocet_instr_kinds)], narrowed := true }
def InstrBackUptoSaid : Prop := instrBackUptoRow.holds Tryd.pinned (OpenSpec.upto instrBackSpec)

/-- 'avocetlaw05.InstrTold', WHERE WHAT IT READS IS OF BULK AT MOST 1048576: true; the input reads as it did. -/
def instrToldUptoRow : OpenClaim := { program := "ytmjimijolfjhmaadoor", sum := "72c0e058dad54cad1ce635a67fe230689968c489fdb9ca94917714d4dc32b106", func := "avocet/avocetlaw05.InstrTold", spec := "instrTold", unfollowed := true, recurses := true, named := ["avocet/instr.kinds"], apart := false, laid := [("avocet/instr.kinds", laid_avocet_instr_kinds)], narrowed := true }
def InstrToldUptoSaid : Prop := instrToldUptoRow.holds Tryd.pinned (OpenSpec.upto instrToldSpec)

/-- 'avocetlaw05.InstrOps', WHERE WHAT IT READS IS OF BULK AT MOST 1048576: true; the input reads as it did. -/
def instrOpsUptoRow : OpenClaim := { program := "ytmjimijolfjhmaadoor", sum := "72c0e058dad54cad1ce635a67fe230689968c489fdb9ca94917714d4dc32b106", func := "avocet/avocetlaw05.InstrOps", spec := "instrOps", unfollowed := true, recurses := true, named := ["avocet/instr.kinds", "avocet/instr.accesses"], apart := false, laid := [("avocet/instr.kinds", laid_avocet_instr_kinds), ("avocet/instr.accesses", laid_avocet_instr_accesses)], narrowed := true }
def InstrOpsUptoSaid : Prop := instrOpsUptoRow.holds Tryd.pinned (OpenSpec.upto instrOpsSpec)

/-- 'avocetlaw05.InstrRow', WHERE WHAT IT READS IS OF BULK AT MOST 1048576: true; the input reads as it did. -/
def instrRowUptoRow : OpenClaim := { program := "ytmjimijolfjhmaadoor", sum := "72c0e058dad54cad1ce635a67fe230689968c489fdb9ca94917714d4dc32b106", func := "avocet/avocetlaw05.InstrRow", spec := "instrRow", unfollowed := true, recurses := true, named := ["avocet/instr.kinds"], apart := false, laid := [("avocet/instr.kinds", laid_avocet_instr_kinds)], narrowed := true }
def InstrRowUptoSaid : Prop := instrRowUptoRow.holds Tryd.pinned (OpenSpec.upto instrRowSpec)

/-- 'avocetlaw05.InstrSame', WHERE WHAT IT READS IS OF BULK AT MOST 1048576: true; the input reads as it did. -/
def instrSameUptoRow : OpenClaim := { program := "ytmjimijolfjhmaadoor", sum := "72c0e058dad54cad1ce635a67fe230689968c489fdb9ca94917714d4dc32b106", func := "avocet/avocetlaw05.InstrSame", spec := "instrSame", unfollowed := true, recurses := true, named := ["avocet/instr.kinds"], apart := false, laid := [("avocet/instr.kinds", laid_avocet_instr_kinds)], narrowed := true }
def InstrSameUptoSaid : Prop := instrSameUptoRow.holds Tryd.pinned (OpenSpec.upto instrSameSpec)

end Rows
end Go.Proofs.YtmjimijolfjhmaaDoor
