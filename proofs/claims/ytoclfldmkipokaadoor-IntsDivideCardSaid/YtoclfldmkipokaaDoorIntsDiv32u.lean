/- IntsDivide walked: 32u. -/
import Derived.Test.YtoclfldmkipokaaDoorIntsDivP
namespace Go.Proofs.YtoclfldmkipokaaDoor.Ints
open Go.RowKit
set_option maxRecDepth 100000
set_option maxHeartbeats 400000

theorem dA_32u (a b x : Int) (w : World) (hT : Tab w) (hv1 : CallV 127 (wrap64 a) x) (hv2 : CallV 127 (wrap64 b) 0) (hd : CallD 110 x 0 0 2) (hr : CallD 112 x 0 0 2) :
    Calls Tryd.prog 7 #[.int .u64 a, .int .u64 b, .bool false, .bool false] w fun e w' => e = .returned (.bool true) ∧ Below w.heap.size w w' := by
  have HA := Lib.hid awake_any
  have HV1 := Lib.hid hv1
  have HV2 := Lib.hid hv2
  have HD := Lib.hid hd
  have HR := Lib.hid hr
  have HT := Lib.hid hT
  clear hT hv1 hv2 hd hr
  go_enter Tryd.func7, Tryd.ntmps7
  go_wp2_with fail
  refine (HA.out _ HT.out).mono ?_
  rintro e w1 ⟨rfl, b1⟩
  have HT1 := Lib.hid (HT.out.keep b1)
  go_wp2_with fail
  refine (HV1.out _).mono ?_
  rintro e w' ⟨rfl, rfl⟩
  go_wp2_with fail
  refine (HV2.out _).mono ?_
  rintro e w' ⟨rfl, rfl⟩
  go_wp2_with fail
  refine (HD.out _ HT1.out).mono ?_
  rintro e w2 ⟨rfl, b2⟩
  have HT2 := Lib.hid (HT1.out.keep b2)
  go_wp2_with fail
  refine (HR.out _ HT2.out).mono ?_
  rintro e w3 ⟨rfl, b3⟩
  have HT3 := Lib.hid (HT2.out.keep b3)
  go_wp2_with fail
  go_ret
  have c2 := b1.trans (b2.mono b1.size)
  have c3 := c2.trans (b3.mono c2.size)
  exact ⟨rfl, c3⟩
theorem dC_32u (a b x y q r m : Int) (w : World) (hT : Tab w) (hv1 : CallV 127 (wrap64 a) x) (hv2 : CallV 127 (wrap64 b) y) (hy0 : (y == 0) = false) (hry : r < y) (hd : CallD 110 x y q 0) (hr : CallD 112 x y r 0) (hm : CallD 108 q y m 0) (hn : CallD 106 m r x 0) :
    Calls Tryd.prog 7 #[.int .u64 a, .int .u64 b, .bool false, .bool false] w fun e w' => e = .returned (.bool true) ∧ Below w.heap.size w w' := by
  have HA := Lib.hid awake_any
  have HV1 := Lib.hid hv1
  have HV2 := Lib.hid hv2
  have HD := Lib.hid hd
  have HR := Lib.hid hr
  have HM := Lib.hid hm
  have HN := Lib.hid hn
  have HT := Lib.hid hT
  clear hT hv1 hv2 hd hr hm hn
  go_enter Tryd.func7, Tryd.ntmps7
  go_wp2_with fail
  refine (HA.out _ HT.out).mono ?_
  rintro e w1 ⟨rfl, b1⟩
  have HT1 := Lib.hid (HT.out.keep b1)
  go_wp2_with fail
  refine (HV1.out _).mono ?_
  rintro e w' ⟨rfl, rfl⟩
  go_wp2_with fail
  refine (HV2.out _).mono ?_
  rintro e w' ⟨rfl, rfl⟩
  go_wp2_with fail
  refine (HD.out _ HT1.out).mono ?_
  rintro e w2 ⟨rfl, b2⟩
  have HT2 := Lib.hid (HT1.out.keep b2)
  go_wp2_with fail
  refine (HR.out _ HT2.out).mono ?_
  rintro e w3 ⟨rfl, b3⟩
  have HT3 := Lib.hid (HT2.out.keep b3)
  go_wp2_with fail
  refine (HM.out _ HT3.out).mono ?_
  rintro e w4 ⟨rfl, b4⟩
  have HT4 := Lib.hid (HT3.out.keep b4)
  go_wp2_with fail
  refine (HN.out _ HT4.out).mono ?_
  rintro e w5 ⟨rfl, b5⟩
  have HT5 := Lib.hid (HT4.out.keep b5)
  go_wp2_with fail
  go_ret
  have c2 := b1.trans (b2.mono b1.size)
  have c3 := c2.trans (b3.mono c2.size)
  have c4 := c3.trans (b4.mono c3.size)
  have c5 := c4.trans (b5.mono c4.size)
  exact ⟨rfl, c5⟩
end Go.Proofs.YtoclfldmkipokaaDoor.Ints
