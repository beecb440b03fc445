/- The statements' own examples, walked; and laws of one line on what an operator gives. -/
import Derived.Test.YtoclfldmkipokaaDoorIntsTwo
namespace Go.Proofs.YtoclfldmkipokaaDoor.Ints
open Go.RowKit
set_option maxRecDepth 100000
set_option maxHeartbeats 400000

theorem aw1 : twV 109 4294967289 2 = 4294967293 ∧ twT 109 4294967289 2 = 0 ∧ twB 109 = true := by decide +kernel
theorem aw2 : twV 111 4294967289 2 = 4294967295 ∧ twT 111 4294967289 2 = 0 ∧ twB 111 = true := by decide +kernel
theorem aw3 : onV 103 1 = 31 ∧ onB 103 = true := by decide +kernel
theorem awake_any (w : World) (hT : Tab w) : Calls Tryd.prog 13 #[] w fun e w' => e = .returned (.bool true) ∧ Below w.heap.size w w' := by
  have HT := Lib.hid hT
  clear hT
  have H1 := Lib.hid (fun W h => two_any 109 4294967289 2 W h ⟨by omega, by omega⟩ ⟨by omega, by omega⟩)
  have H2 := Lib.hid (fun W h => two_any 111 4294967289 2 W h ⟨by omega, by omega⟩ ⟨by omega, by omega⟩)
  have H3 := Lib.hid (fun W h => one_any 103 1 W h ⟨by omega, by omega⟩)
  rw [aw1.1, aw1.2.1, aw1.2.2] at H1
  rw [aw2.1, aw2.2.1, aw2.2.2] at H2
  rw [aw3.1, aw3.2] at H3
  go_enter Tryd.func13, Tryd.ntmps13
  go_wp2_with fail
  refine (H1.out _ HT.out).mono ?_
  rintro e w1 ⟨rfl, b1⟩
  have HT1 := Lib.hid (HT.out.keep b1)
  go_wp2_with fail
  refine (H2.out _ HT1.out).mono ?_
  rintro e w2 ⟨rfl, b2⟩
  have HT2 := Lib.hid (HT1.out.keep b2)
  go_wp2_with fail
  refine (H3.out _ HT2.out).mono ?_
  rintro e w3 ⟨rfl, b3⟩
  go_wp2_with fail
  go_ret
  exact ⟨rfl, (b1.trans (b2.mono b1.size)).trans (b3.mono (Nat.le_trans b1.size b2.size))⟩
end Go.Proofs.YtoclfldmkipokaaDoor.Ints
