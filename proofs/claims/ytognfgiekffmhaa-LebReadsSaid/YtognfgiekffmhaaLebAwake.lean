/- The document's two examples, as every statement of layer 1 asks them first: the program lays them as the document says. -/
import Derived.Test.YtognfgiekffmhaaLebUS
namespace Go.Proofs.Ytognfgiekffmhaa.Leb
open Go.RowKit

theorem uB_example : uB 624485 = [229, 142, 38] := by
  rw [uB_great (by omega), uB_great (by omega), uB_small (by omega)]; rfl
theorem sB_example : sB (-123456) = [192, 187, 120] := by
  rw [sB_great (by omega), sB_great (by omega), sB_small (by omega)]; rfl

set_option maxHeartbeats 400000 in
set_option maxRecDepth 100000 in
theorem awake_any (w : World) : Calls Try.prog 10 #[] w fun e w' => e = .returned (.bool true) ∧ Below w.heap.size w w' := by
  have hU : ∀ W : World, Calls Try.prog 11 #[.slice none 0 0, .int .u64 624485] W (Laid W [229, 142, 38]) := fun W => by
    have := U_any none 0 624485 [] W (byt_nil _ _ _) (by simp) (by omega)
    rw [uB_example] at this
    exact this
  have hS : ∀ W : World, Calls Try.prog 13 #[.slice none 0 0, .int .i64 (-123456)] W (Laid W [192, 187, 120]) := fun W => by
    have := S_any none 0 (-123456) [] W (byt_nil _ _ _) (by simp) (by omega) (by omega)
    rw [sB_example] at this
    exact this
  have HU := Lib.hid hU
  have HS := Lib.hid hS
  clear hU hS
  go_enter Try.func10, Try.ntmps10
  go_wp2_with fail
  refine (HU.out _).mono ?_
  rintro e w1 ⟨v1, rfl, ⟨⟨g1, c1, rfl⟩, ho1⟩, hb1⟩
  go_wp2_with fail
  refine (HS.out _).mono ?_
  rintro e w2 ⟨v2, rfl, ⟨⟨g2, c2, rfl⟩, ho2⟩, hb2⟩
  have hg1 := (ho1.lt g1 rfl).2
  have e0 : w2.cell? ⟨g1, 0, none⟩ = some (.int .u8 229) := (hb2.cell (p := ⟨g1, 0, none⟩) hg1).trans (ho1.cellAt 0 (by decide))
  have e1 : w2.cell? ⟨g1, 1, none⟩ = some (.int .u8 142) := (hb2.cell (p := ⟨g1, 1, none⟩) hg1).trans (ho1.cellAt 1 (by decide))
  have e2 : w2.cell? ⟨g1, 2, none⟩ = some (.int .u8 38) := (hb2.cell (p := ⟨g1, 2, none⟩) hg1).trans (ho1.cellAt 2 (by decide))
  have d0 : w2.cell? ⟨g2, 0, none⟩ = some (.int .u8 192) := ho2.cellAt 0 (by decide)
  have d1 : w2.cell? ⟨g2, 1, none⟩ = some (.int .u8 187) := ho2.cellAt 1 (by decide)
  have d2 : w2.cell? ⟨g2, 2, none⟩ = some (.int .u8 120) := ho2.cellAt 2 (by decide)
  have hB := hb1.trans (hb2.mono hb1.size)
  clear ho1 ho2 hb1 hb2 HU HS
  go_wp2_with fail
  go_ret
  exact ⟨rfl, hB⟩
end Go.Proofs.Ytognfgiekffmhaa.Leb
