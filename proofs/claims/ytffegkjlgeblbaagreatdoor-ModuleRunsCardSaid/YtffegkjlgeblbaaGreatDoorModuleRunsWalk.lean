/- ModuleRunsWalk. -/
import Derived.Test.YtffegkjlgeblbaaGreatDoorModRunsW
/- ModuleRuns, from what came in. -/
namespace Go.Proofs.YtffegkjlgeblbaaGreatDoor.Mdl
open Go.RowKit Ints Typ Ins
set_option linter.unusedVariables false
theorem runs_came {a : Option Addr} {n c : Nat} {zs : List Int} {v : Value} {m : ModT} {w : World} (h0 : Leb.Came .u8 w a n c zs) (h : ModAt w v m) :
    Calls Tryz.prog 8 #[.slice a n c, v] w fun e w' => e = .returned (.bool true) ∧ Below w.heap.size w w' := by
  obtain ⟨hs, hb⟩ := Utf.came_sl h0
  obtain ⟨A', c', e, _⟩ := id hs
  injection e with _ e2 _
  exact runs_law e2.symm hs hb h
end Go.Proofs.YtffegkjlgeblbaaGreatDoor.Mdl
