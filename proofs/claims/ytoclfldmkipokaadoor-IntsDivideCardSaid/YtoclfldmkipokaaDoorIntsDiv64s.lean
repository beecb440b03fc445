/- IntsDivide walked: 64s. -/
import Derived.Test.YtoclfldmkipokaaDoorIntsDivP
namespace Go.Proofs.YtoclfldmkipokaaDoor.Ints
open Go.RowKit
set_option maxRecDepth 100000
set_option maxHeartbeats 400000

theorem dA_64s (a b x : Int) (w : World) (hT : Tab w) (hv1 : CallV 126 (wrap64 a) x) (hv2 : CallV 126 (wrap64 b) 0) (hd : CallD 127 x 0 0 2) (hr : CallD 129 x 0 0 2) :
    Calls Tryd.prog 7 #[.int .u64 a, .int .u64 b, .bool true, .bool true] w fun e w' => e = .returned (.bool true) ∧ Below w.heap.size w w' := by
  have HA := Lib.hid awake_any
  have HV1 := Lib.hid hv1
  have HV2 := Lib.hid hv2
  have HD := Lib.hid hd
  have HR := Lib.hid hr
  have HT := Lib.hid hT
  clear hT hv1 hv2 hd hr
  go_enter Tryd.func7, Tryd.ntmps7
  go_wp2_with fail
  refine (HA.out _ HT.out).mono ?_
  rintro e w1 ⟨rfl, b1⟩
  have HT1 := Lib.hid (HT.out.keep b1)
  go_wp2_with fail
  refine (HV1.out _).mono ?_
  rintro e w' ⟨rfl, rfl⟩
  go_wp2_with fail
  refine (HV2.out _).mono ?_
  rintro e w' ⟨rfl, rfl⟩
  go_wp2_with fail
  refine (HD.out _ HT1.out).mono ?_
  rintro e w2 ⟨rfl, b2⟩
  have HT2 := Lib.hid (HT1.out.keep b2)
  go_wp2_with fail
  refine (HR.out _ HT2.out).mono ?_
  rintro e w3 ⟨rfl, b3⟩
  have HT3 := Lib.hid (HT2.out.keep b3)
  go_wp2_with fail
  go_ret
  have c2 := b1.trans (b2.mono b1.size)
  have c3 := c2.trans (b3.mono c2.size)
  exact ⟨rfl, c3⟩
theorem dB_64s (a b y : Int) (w : World) (hT : Tab w) (hv1 : CallV 126 (wrap64 a) 9223372036854775808) (hv2 : CallV 126 (wrap64 b) y) (hy0 : (y == 0) = false) (hs : CallS 126 y (-1)) (hd : CallD 127 9223372036854775808 y 0 3) (hr : CallD 129 9223372036854775808 y 0 0) :
    Calls Tryd.prog 7 #[.int .u64 a, .int .u64 b, .bool true, .bool true] w fun e w' => e = .returned (.bool true) ∧ Below w.heap.size w w' := by
  have HA := Lib.hid awake_any
  have HV1 := Lib.hid hv1
  have HV2 := Lib.hid hv2
  have HD := Lib.hid hd
  have HR := Lib.hid hr
  have HS := Lib.hid hs
  have HT := Lib.hid hT
  clear hT hv1 hv2 hd hr hs
  go_enter Tryd.func7, Tryd.ntmps7
  go_wp2_with fail
  refine (HA.out _ HT.out).mono ?_
  rintro e w1 ⟨rfl, b1⟩
  have HT1 := Lib.hid (HT.out.keep b1)
  go_wp2_with fail
  refine (HV1.out _).mono ?_
  rintro e w' ⟨rfl, rfl⟩
  go_wp2_with fail
  refine (HV2.out _).mono ?_
  rintro e w' ⟨rfl, rfl⟩
  go_wp2_with fail
  refine (HD.out _ HT1.out).mono ?_
  rintro e w2 ⟨rfl, b2⟩
  have HT2 := Lib.hid (HT1.out.keep b2)
  go_wp2_with fail
  refine (HR.out _ HT2.out).mono ?_
  rintro e w3 ⟨rfl, b3⟩
  have HT3 := Lib.hid (HT2.out.keep b3)
  go_wp2_with fail
  refine (HS.out _).mono ?_
  rintro e w' ⟨rfl, rfl⟩
  go_wp2_with fail
  go_ret
  have c2 := b1.trans (b2.mono b1.size)
  have c3 := c2.trans (b3.mono c2.size)
  exact ⟨rfl, c3⟩
theorem dCn0_64s (a b x y q m : Int) (w : World) (hT : Tab w) (hv1 : CallV 126 (wrap64 a) x) (hv2 : CallV 126 (wrap64 b) y) (hy0 : (y == 0) = false) (hxl : (x == 9223372036854775808) = false) (hd : CallD 127 x y q 0) (hr : CallD 129 x y 0 0) (hm : CallD 126 q y m 0) (hn : CallD 124 m 0 x 0)  :
    Calls Tryd.prog 7 #[.int .u64 a, .int .u64 b, .bool true, .bool true] w fun e w' => e = .returned (.bool true) ∧ Below w.heap.size w w' := by
  have HA := Lib.hid awake_any
  have HV1 := Lib.hid hv1
  have HV2 := Lib.hid hv2
  have HD := Lib.hid hd
  have HR := Lib.hid hr
  have HM := Lib.hid hm
  have HN := Lib.hid hn
  have HT := Lib.hid hT
  clear hT hv1 hv2 hd hr hm hn
  go_enter Tryd.func7, Tryd.ntmps7
  go_wp2_with fail
  refine (HA.out _ HT.out).mono ?_
  rintro e w1 ⟨rfl, b1⟩
  have HT1 := Lib.hid (HT.out.keep b1)
  go_wp2_with fail
  refine (HV1.out _).mono ?_
  rintro e w' ⟨rfl, rfl⟩
  go_wp2_with fail
  refine (HV2.out _).mono ?_
  rintro e w' ⟨rfl, rfl⟩
  go_wp2_with fail
  refine (HD.out _ HT1.out).mono ?_
  rintro e w2 ⟨rfl, b2⟩
  have HT2 := Lib.hid (HT1.out.keep b2)
  go_wp2_with fail
  refine (HR.out _ HT2.out).mono ?_
  rintro e w3 ⟨rfl, b3⟩
  have HT3 := Lib.hid (HT2.out.keep b3)
  go_wp2_with fail
  refine (HM.out _ HT3.out).mono ?_
  rintro e w4 ⟨rfl, b4⟩
  have HT4 := Lib.hid (HT3.out.keep b4)
  go_wp2_with fail
  refine (HN.out _ HT4.out).mono ?_
  rintro e w5 ⟨rfl, b5⟩
  have HT5 := Lib.hid (HT4.out.keep b5)
  go_wp2_with fail
  go_ret
  have c2 := b1.trans (b2.mono b1.size)
  have c3 := c2.trans (b3.mono c2.size)
  have c4 := c3.trans (b4.mono c3.size)
  have c5 := c4.trans (b5.mono c4.size)
  exact ⟨rfl, c5⟩
theorem dCnm_64s (a b x y q m r tm sx : Int) (w : World) (hT : Tab w) (hv1 : CallV 126 (wrap64 a) x) (hv2 : CallV 126 (wrap64 b) y) (hy0 : (y == 0) = false) (hxl : (x == 9223372036854775808) = false) (hd : CallD 127 x y q 0) (hr : CallD 129 x y r 0) (hm : CallD 126 q y m 0) (hn : CallD 124 m r x 0) (hr0 : (r == 0) = false) (hsr : CallS 126 r tm) (hsx : CallS 126 x sx) (h1 : tm < 0) (h2 : sx < 0)  :
    Calls Tryd.prog 7 #[.int .u64 a, .int .u64 b, .bool true, .bool true] w fun e w' => e = .returned (.bool true) ∧ Below w.heap.size w w' := by
  have HA := Lib.hid awake_any
  have HV1 := Lib.hid hv1
  have HV2 := Lib.hid hv2
  have HD := Lib.hid hd
  have HR := Lib.hid hr
  have HM := Lib.hid hm
  have HN := Lib.hid hn
  have HSR := Lib.hid hsr
  have HSX := Lib.hid hsx
  have HT := Lib.hid hT
  clear hT hv1 hv2 hd hr hm hn hsr hsx
  go_enter Tryd.func7, Tryd.ntmps7
  go_wp2_with fail
  refine (HA.out _ HT.out).mono ?_
  rintro e w1 ⟨rfl, b1⟩
  have HT1 := Lib.hid (HT.out.keep b1)
  go_wp2_with fail
  refine (HV1.out _).mono ?_
  rintro e w' ⟨rfl, rfl⟩
  go_wp2_with fail
  refine (HV2.out _).mono ?_
  rintro e w' ⟨rfl, rfl⟩
  go_wp2_with fail
  refine (HD.out _ HT1.out).mono ?_
  rintro e w2 ⟨rfl, b2⟩
  have HT2 := Lib.hid (HT1.out.keep b2)
  go_wp2_with fail
  refine (HR.out _ HT2.out).mono ?_
  rintro e w3 ⟨rfl, b3⟩
  have HT3 := Lib.hid (HT2.out.keep b3)
  go_wp2_with fail
  refine (HM.out _ HT3.out).mono ?_
  rintro e w4 ⟨rfl, b4⟩
  have HT4 := Lib.hid (HT3.out.keep b4)
  go_wp2_with fail
  refine (HN.out _ HT4.out).mono ?_
  rintro e w5 ⟨rfl, b5⟩
  have HT5 := Lib.hid (HT4.out.keep b5)
  go_wp2_with fail
  refine (HSR.out _).mono ?_
  rintro e w' ⟨rfl, rfl⟩
  go_wp2_with fail
  refine (HSX.out _).mono ?_
  rintro e w' ⟨rfl, rfl⟩
  go_wp2_with fail
  go_ret
  have c2 := b1.trans (b2.mono b1.size)
  have c3 := c2.trans (b3.mono c2.size)
  have c4 := c3.trans (b4.mono c3.size)
  have c5 := c4.trans (b5.mono c4.size)
  exact ⟨rfl, c5⟩
theorem dCnp_64s (a b x y q m r tm sx : Int) (w : World) (hT : Tab w) (hv1 : CallV 126 (wrap64 a) x) (hv2 : CallV 126 (wrap64 b) y) (hy0 : (y == 0) = false) (hxl : (x == 9223372036854775808) = false) (hd : CallD 127 x y q 0) (hr : CallD 129 x y r 0) (hm : CallD 126 q y m 0) (hn : CallD 124 m r x 0) (hr0 : (r == 0) = false) (hsr : CallS 126 r tm) (hsx : CallS 126 x sx) (h1 : decide (tm < 0) = false) (h2 : decide (sx < 0) = false)  :
    Calls Tryd.prog 7 #[.int .u64 a, .int .u64 b, .bool true, .bool true] w fun e w' => e = .returned (.bool true) ∧ Below w.heap.size w w' := by
  have HA := Lib.hid awake_any
  have HV1 := Lib.hid hv1
  have HV2 := Lib.hid hv2
  have HD := Lib.hid hd
  have HR := Lib.hid hr
  have HM := Lib.hid hm
  have HN := Lib.hid hn
  have HSR := Lib.hid hsr
  have HSX := Lib.hid hsx
  have HT := Lib.hid hT
  clear hT hv1 hv2 hd hr hm hn hsr hsx
  go_enter Tryd.func7, Tryd.ntmps7
  go_wp2_with fail
  refine (HA.out _ HT.out).mono ?_
  rintro e w1 ⟨rfl, b1⟩
  have HT1 := Lib.hid (HT.out.keep b1)
  go_wp2_with fail
  refine (HV1.out _).mono ?_
  rintro e w' ⟨rfl, rfl⟩
  go_wp2_with fail
  refine (HV2.out _).mono ?_
  rintro e w' ⟨rfl, rfl⟩
  go_wp2_with fail
  refine (HD.out _ HT1.out).mono ?_
  rintro e w2 ⟨rfl, b2⟩
  have HT2 := Lib.hid (HT1.out.keep b2)
  go_wp2_with fail
  refine (HR.out _ HT2.out).mono ?_
  rintro e w3 ⟨rfl, b3⟩
  have HT3 := Lib.hid (HT2.out.keep b3)
  go_wp2_with fail
  refine (HM.out _ HT3.out).mono ?_
  rintro e w4 ⟨rfl, b4⟩
  have HT4 := Lib.hid (HT3.out.keep b4)
  go_wp2_with fail
  refine (HN.out _ HT4.out).mono ?_
  rintro e w5 ⟨rfl, b5⟩
  have HT5 := Lib.hid (HT4.out.keep b5)
  go_wp2_with fail
  refine (HSR.out _).mono ?_
  rintro e w' ⟨rfl, rfl⟩
  go_wp2_with fail
  refine (HSX.out _).mono ?_
  rintro e w' ⟨rfl, rfl⟩
  go_wp2_with fail
  go_ret
  have c2 := b1.trans (b2.mono b1.size)
  have c3 := c2.trans (b3.mono c2.size)
  have c4 := c3.trans (b4.mono c3.size)
  have c5 := c4.trans (b5.mono c4.size)
  exact ⟨rfl, c5⟩
theorem dCl0_64s (a b y q m sy : Int) (w : World) (hT : Tab w) (hv1 : CallV 126 (wrap64 a) 9223372036854775808) (hv2 : CallV 126 (wrap64 b) y) (hy0 : (y == 0) = false) (hsy : (sy == -1) = false) (hs : CallS 126 y sy) (hd : CallD 127 9223372036854775808 y q 0) (hr : CallD 129 9223372036854775808 y 0 0) (hm : CallD 126 q y m 0) (hn : CallD 124 m 0 9223372036854775808 0)  :
    Calls Tryd.prog 7 #[.int .u64 a, .int .u64 b, .bool true, .bool true] w fun e w' => e = .returned (.bool true) ∧ Below w.heap.size w w' := by
  have HA := Lib.hid awake_any
  have HV1 := Lib.hid hv1
  have HV2 := Lib.hid hv2
  have HD := Lib.hid hd
  have HR := Lib.hid hr
  have HS := Lib.hid hs
  have HM := Lib.hid hm
  have HN := Lib.hid hn
  have HT := Lib.hid hT
  clear hT hv1 hv2 hd hr hs hm hn
  go_enter Tryd.func7, Tryd.ntmps7
  go_wp2_with fail
  refine (HA.out _ HT.out).mono ?_
  rintro e w1 ⟨rfl, b1⟩
  have HT1 := Lib.hid (HT.out.keep b1)
  go_wp2_with fail
  refine (HV1.out _).mono ?_
  rintro e w' ⟨rfl, rfl⟩
  go_wp2_with fail
  refine (HV2.out _).mono ?_
  rintro e w' ⟨rfl, rfl⟩
  go_wp2_with fail
  refine (HD.out _ HT1.out).mono ?_
  rintro e w2 ⟨rfl, b2⟩
  have HT2 := Lib.hid (HT1.out.keep b2)
  go_wp2_with fail
  refine (HR.out _ HT2.out).mono ?_
  rintro e w3 ⟨rfl, b3⟩
  have HT3 := Lib.hid (HT2.out.keep b3)
  go_wp2_with fail
  refine (HS.out _).mono ?_
  rintro e w' ⟨rfl, rfl⟩
  go_wp2_with fail
  refine (HM.out _ HT3.out).mono ?_
  rintro e w4 ⟨rfl, b4⟩
  have HT4 := Lib.hid (HT3.out.keep b4)
  go_wp2_with fail
  refine (HN.out _ HT4.out).mono ?_
  rintro e w5 ⟨rfl, b5⟩
  have HT5 := Lib.hid (HT4.out.keep b5)
  go_wp2_with fail
  go_ret
  have c2 := b1.trans (b2.mono b1.size)
  have c3 := c2.trans (b3.mono c2.size)
  have c4 := c3.trans (b4.mono c3.size)
  have c5 := c4.trans (b5.mono c4.size)
  exact ⟨rfl, c5⟩
theorem dClm_64s (a b y q m r tm sx sy : Int) (w : World) (hT : Tab w) (hv1 : CallV 126 (wrap64 a) 9223372036854775808) (hv2 : CallV 126 (wrap64 b) y) (hy0 : (y == 0) = false) (hsy : (sy == -1) = false) (hs : CallS 126 y sy) (hd : CallD 127 9223372036854775808 y q 0) (hr : CallD 129 9223372036854775808 y r 0) (hm : CallD 126 q y m 0) (hn : CallD 124 m r 9223372036854775808 0) (hr0 : (r == 0) = false) (hsr : CallS 126 r tm) (hsx : CallS 126 9223372036854775808 sx) (h1 : tm < 0) (h2 : sx < 0)  :
    Calls Tryd.prog 7 #[.int .u64 a, .int .u64 b, .bool true, .bool true] w fun e w' => e = .returned (.bool true) ∧ Below w.heap.size w w' := by
  have HA := Lib.hid awake_any
  have HV1 := Lib.hid hv1
  have HV2 := Lib.hid hv2
  have HD := Lib.hid hd
  have HR := Lib.hid hr
  have HS := Lib.hid hs
  have HM := Lib.hid hm
  have HN := Lib.hid hn
  have HSR := Lib.hid hsr
  have HSX := Lib.hid hsx
  have HT := Lib.hid hT
  clear hT hv1 hv2 hd hr hs hm hn hsr hsx
  go_enter Tryd.func7, Tryd.ntmps7
  go_wp2_with fail
  refine (HA.out _ HT.out).mono ?_
  rintro e w1 ⟨rfl, b1⟩
  have HT1 := Lib.hid (HT.out.keep b1)
  go_wp2_with fail
  refine (HV1.out _).mono ?_
  rintro e w' ⟨rfl, rfl⟩
  go_wp2_with fail
  refine (HV2.out _).mono ?_
  rintro e w' ⟨rfl, rfl⟩
  go_wp2_with fail
  refine (HD.out _ HT1.out).mono ?_
  rintro e w2 ⟨rfl, b2⟩
  have HT2 := Lib.hid (HT1.out.keep b2)
  go_wp2_with fail
  refine (HR.out _ HT2.out).mono ?_
  rintro e w3 ⟨rfl, b3⟩
  have HT3 := Lib.hid (HT2.out.keep b3)
  go_wp2_with fail
  refine (HS.out _).mono ?_
  rintro e w' ⟨rfl, rfl⟩
  go_wp2_with fail
  refine (HM.out _ HT3.out).mono ?_
  rintro e w4 ⟨rfl, b4⟩
  have HT4 := Lib.hid (HT3.out.keep b4)
  go_wp2_with fail
  refine (HN.out _ HT4.out).mono ?_
  rintro e w5 ⟨rfl, b5⟩
  have HT5 := Lib.hid (HT4.out.keep b5)
  go_wp2_with fail
  refine (HSR.out _).mono ?_
  rintro e w' ⟨rfl, rfl⟩
  go_wp2_with fail
  refine (HSX.out _).mono ?_
  rintro e w' ⟨rfl, rfl⟩
  go_wp2_with fail
  go_ret
  have c2 := b1.trans (b2.mono b1.size)
  have c3 := c2.trans (b3.mono c2.size)
  have c4 := c3.trans (b4.mono c3.size)
  have c5 := c4.trans (b5.mono c4.size)
  exact ⟨rfl, c5⟩
theorem dClp_64s (a b y q m r tm sx sy : Int) (w : World) (hT : Tab w) (hv1 : CallV 126 (wrap64 a) 9223372036854775808) (hv2 : CallV 126 (wrap64 b) y) (hy0 : (y == 0) = false) (hsy : (sy == -1) = false) (hs : CallS 126 y sy) (hd : CallD 127 9223372036854775808 y q 0) (hr : CallD 129 9223372036854775808 y r 0) (hm : CallD 126 q y m 0) (hn : CallD 124 m r 9223372036854775808 0) (hr0 : (r == 0) = false) (hsr : CallS 126 r tm) (hsx : CallS 126 9223372036854775808 sx) (h1 : decide (tm < 0) = false) (h2 : decide (sx < 0) = false)  :
    Calls Tryd.prog 7 #[.int .u64 a, .int .u64 b, .bool true, .bool true] w fun e w' => e = .returned (.bool true) ∧ Below w.heap.size w w' := by
  have HA := Lib.hid awake_any
  have HV1 := Lib.hid hv1
  have HV2 := Lib.hid hv2
  have HD := Lib.hid hd
  have HR := Lib.hid hr
  have HS := Lib.hid hs
  have HM := Lib.hid hm
  have HN := Lib.hid hn
  have HSR := Lib.hid hsr
  have HSX := Lib.hid hsx
  have HT := Lib.hid hT
  clear hT hv1 hv2 hd hr hs hm hn hsr hsx
  go_enter Tryd.func7, Tryd.ntmps7
  go_wp2_with fail
  refine (HA.out _ HT.out).mono ?_
  rintro e w1 ⟨rfl, b1⟩
  have HT1 := Lib.hid (HT.out.keep b1)
  go_wp2_with fail
  refine (HV1.out _).mono ?_
  rintro e w' ⟨rfl, rfl⟩
  go_wp2_with fail
  refine (HV2.out _).mono ?_
  rintro e w' ⟨rfl, rfl⟩
  go_wp2_with fail
  refine (HD.out _ HT1.out).mono ?_
  rintro e w2 ⟨rfl, b2⟩
  have HT2 := Lib.hid (HT1.out.keep b2)
  go_wp2_with fail
  refine (HR.out _ HT2.out).mono ?_
  rintro e w3 ⟨rfl, b3⟩
  have HT3 := Lib.hid (HT2.out.keep b3)
  go_wp2_with fail
  refine (HS.out _).mono ?_
  rintro e w' ⟨rfl, rfl⟩
  go_wp2_with fail
  refine (HM.out _ HT3.out).mono ?_
  rintro e w4 ⟨rfl, b4⟩
  have HT4 := Lib.hid (HT3.out.keep b4)
  go_wp2_with fail
  refine (HN.out _ HT4.out).mono ?_
  rintro e w5 ⟨rfl, b5⟩
  have HT5 := Lib.hid (HT4.out.keep b5)
  go_wp2_with fail
  refine (HSR.out _).mono ?_
  rintro e w' ⟨rfl, rfl⟩
  go_wp2_with fail
  refine (HSX.out _).mono ?_
  rintro e w' ⟨rfl, rfl⟩
  go_wp2_with fail
  go_ret
  have c2 := b1.trans (b2.mono b1.size)
  have c3 := c2.trans (b3.mono c2.size)
  have c4 := c3.trans (b4.mono c3.size)
  have c5 := c4.trans (b5.mono c4.size)
  exact ⟨rfl, c5⟩
end Go.Proofs.YtoclfldmkipokaaDoor.Ints
