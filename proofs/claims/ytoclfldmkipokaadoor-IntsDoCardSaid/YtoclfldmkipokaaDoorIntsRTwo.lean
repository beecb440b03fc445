/- The document's One and Two of layer 2, walked: one operator after the other. -/
import Derived.Test.YtoclfldmkipokaaDoorIntsShape
import Derived.Test.YtoclfldmkipokaaDoorIntsOrderP
import Derived.Test.YtoclfldmkipokaaDoorIntsDiv
namespace Go.Proofs.YtoclfldmkipokaaDoor.Ints
open Go.RowKit
set_option maxRecDepth 100000
set_option maxHeartbeats 400000

def RefIs (op a b v t : Int) (B : Bool) : Prop := ∀ w, Calls Tryd.prog 19 #[.int .i64 op, .int .u64 a, .int .u64 b] w fun e w' => e = .returned (.tuple #[.int .u64 v, .int .i64 t, .bool B]) ∧ w = w'
def RefOne (op a v : Int) (B : Bool) : Prop := ∀ w, Calls Tryd.prog 17 #[.int .i64 op, .int .u64 a] w fun e w' => e = .returned (.tuple #[.int .u64 v, .bool B]) ∧ w = w'
def LowIs (n v r : Int) : Prop := ∀ w, Calls Tryd.prog 32 #[.int .u64 v, .int .i64 n] w fun e w' => e = .returned (.int .u64 r) ∧ w = w'
def CmpIs (k x y n : Int) (B : Bool) : Prop := ∀ w, Calls Tryd.prog 36 #[.int .i64 k, .int .u64 x, .int .u64 y, .int .i64 n] w fun e w' => e = .returned (.bool B) ∧ w = w'
def DivIs (k x y n v t : Int) : Prop := ∀ w, Calls Tryd.prog 37 #[.int .i64 k, .int .u64 x, .int .u64 y, .int .i64 n] w fun e w' => e = .returned (.tuple #[.int .u64 v, .int .i64 t]) ∧ w = w'
def TrnIs (k x m n v : Int) : Prop := ∀ w, Calls Tryd.prog 38 #[.int .i64 k, .int .u64 x, .int .i64 m, .int .i64 n] w fun e w' => e = .returned (.int .u64 v) ∧ w = w'
def CntIs (k x n v : Int) : Prop := ∀ w, Calls Tryd.prog 35 #[.int .i64 k, .int .u64 x, .int .i64 n] w fun e w' => e = .returned (.int .u64 v) ∧ w = w'
theorem yes_is (B : Bool) (w : World) : Calls Tryd.prog 34 #[.bool B] w fun e w' => e = .returned (.int .u64 (b2i B)) ∧ w = w' := by
  cases B
  · exact yes_f w
  · exact yes_t w
theorem rtwo_1 (op a b n x y : Int) (C : Bool) (hk : KindIs op 1 n) (hlx : LowIs n a x) (hly : LowIs n b y) (hc : CmpIs 1 x y n C) : RefIs op a b (b2i C) 0 true := by
  intro w
  have HK := Lib.hid hk
  have HLX := Lib.hid hlx
  have HLY := Lib.hid hly
  have HC := Lib.hid hc
  have HYES := Lib.hid yes_is
  clear hk hlx hly hc
  go_enter Tryd.func19, Tryd.ntmps19
  go_wp2_with fail
  refine (HK.out _).mono ?_
  rintro e w' ⟨rfl, rfl⟩
  go_wp2_with fail
  refine (HLX.out _).mono ?_
  rintro e w' ⟨rfl, rfl⟩
  go_wp2_with fail
  refine (HLY.out _).mono ?_
  rintro e w' ⟨rfl, rfl⟩
  go_wp2_with fail
  refine (HC.out _).mono ?_
  rintro e w' ⟨rfl, rfl⟩
  go_wp2_with fail
  refine (HYES.out _ _).mono ?_
  rintro e w' ⟨rfl, rfl⟩
  go_wp2_with fail
  go_ret3
  exact ⟨rfl, rfl⟩
theorem rtwo_2 (op a b n x y : Int) (C : Bool) (hk : KindIs op 2 n) (hlx : LowIs n a x) (hly : LowIs n b y) (hc : CmpIs 2 x y n C) : RefIs op a b (b2i C) 0 true := by
  intro w
  have HK := Lib.hid hk
  have HLX := Lib.hid hlx
  have HLY := Lib.hid hly
  have HC := Lib.hid hc
  have HYES := Lib.hid yes_is
  clear hk hlx hly hc
  go_enter Tryd.func19, Tryd.ntmps19
  go_wp2_with fail
  refine (HK.out _).mono ?_
  rintro e w' ⟨rfl, rfl⟩
  go_wp2_with fail
  refine (HLX.out _).mono ?_
  rintro e w' ⟨rfl, rfl⟩
  go_wp2_with fail
  refine (HLY.out _).mono ?_
  rintro e w' ⟨rfl, rfl⟩
  go_wp2_with fail
  refine (HC.out _).mono ?_
  rintro e w' ⟨rfl, rfl⟩
  go_wp2_with fail
  refine (HYES.out _ _).mono ?_
  rintro e w' ⟨rfl, rfl⟩
  go_wp2_with fail
  go_ret3
  exact ⟨rfl, rfl⟩
theorem rtwo_3 (op a b n x y : Int) (C : Bool) (hk : KindIs op 3 n) (hlx : LowIs n a x) (hly : LowIs n b y) (hc : CmpIs 3 x y n C) : RefIs op a b (b2i C) 0 true := by
  intro w
  have HK := Lib.hid hk
  have HLX := Lib.hid hlx
  have HLY := Lib.hid hly
  have HC := Lib.hid hc
  have HYES := Lib.hid yes_is
  clear hk hlx hly hc
  go_enter Tryd.func19, Tryd.ntmps19
  go_wp2_with fail
  refine (HK.out _).mono ?_
  rintro e w' ⟨rfl, rfl⟩
  go_wp2_with fail
  refine (HLX.out _).mono ?_
  rintro e w' ⟨rfl, rfl⟩
  go_wp2_with fail
  refine (HLY.out _).mono ?_
  rintro e w' ⟨rfl, rfl⟩
  go_wp2_with fail
  refine (HC.out _).mono ?_
  rintro e w' ⟨rfl, rfl⟩
  go_wp2_with fail
  refine (HYES.out _ _).mono ?_
  rintro e w' ⟨rfl, rfl⟩
  go_wp2_with fail
  go_ret3
  exact ⟨rfl, rfl⟩
theorem rtwo_4 (op a b n x y : Int) (C : Bool) (hk : KindIs op 4 n) (hlx : LowIs n a x) (hly : LowIs n b y) (hc : CmpIs 4 x y n C) : RefIs op a b (b2i C) 0 true := by
  intro w
  have HK := Lib.hid hk
  have HLX := Lib.hid hlx
  have HLY := Lib.hid hly
  have HC := Lib.hid hc
  have HYES := Lib.hid yes_is
  clear hk hlx hly hc
  go_enter Tryd.func19, Tryd.ntmps19
  go_wp2_with fail
  refine (HK.out _).mono ?_
  rintro e w' ⟨rfl, rfl⟩
  go_wp2_with fail
  refine (HLX.out _).mono ?_
  rintro e w' ⟨rfl, rfl⟩
  go_wp2_with fail
  refine (HLY.out _).mono ?_
  rintro e w' ⟨rfl, rfl⟩
  go_wp2_with fail
  refine (HC.out _).mono ?_
  rintro e w' ⟨rfl, rfl⟩
  go_wp2_with fail
  refine (HYES.out _ _).mono ?_
  rintro e w' ⟨rfl, rfl⟩
  go_wp2_with fail
  go_ret3
  exact ⟨rfl, rfl⟩
theorem rtwo_5 (op a b n x y : Int) (C : Bool) (hk : KindIs op 5 n) (hlx : LowIs n a x) (hly : LowIs n b y) (hc : CmpIs 5 x y n C) : RefIs op a b (b2i C) 0 true := by
  intro w
  have HK := Lib.hid hk
  have HLX := Lib.hid hlx
  have HLY := Lib.hid hly
  have HC := Lib.hid hc
  have HYES := Lib.hid yes_is
  clear hk hlx hly hc
  go_enter Tryd.func19, Tryd.ntmps19
  go_wp2_with fail
  refine (HK.out _).mono ?_
  rintro e w' ⟨rfl, rfl⟩
  go_wp2_with fail
  refine (HLX.out _).mono ?_
  rintro e w' ⟨rfl, rfl⟩
  go_wp2_with fail
  refine (HLY.out _).mono ?_
  rintro e w' ⟨rfl, rfl⟩
  go_wp2_with fail
  refine (HC.out _).mono ?_
  rintro e w' ⟨rfl, rfl⟩
  go_wp2_with fail
  refine (HYES.out _ _).mono ?_
  rintro e w' ⟨rfl, rfl⟩
  go_wp2_with fail
  go_ret3
  exact ⟨rfl, rfl⟩
theorem rtwo_6 (op a b n x y : Int) (C : Bool) (hk : KindIs op 6 n) (hlx : LowIs n a x) (hly : LowIs n b y) (hc : CmpIs 6 x y n C) : RefIs op a b (b2i C) 0 true := by
  intro w
  have HK := Lib.hid hk
  have HLX := Lib.hid hlx
  have HLY := Lib.hid hly
  have HC := Lib.hid hc
  have HYES := Lib.hid yes_is
  clear hk hlx hly hc
  go_enter Tryd.func19, Tryd.ntmps19
  go_wp2_with fail
  refine (HK.out _).mono ?_
  rintro e w' ⟨rfl, rfl⟩
  go_wp2_with fail
  refine (HLX.out _).mono ?_
  rintro e w' ⟨rfl, rfl⟩
  go_wp2_with fail
  refine (HLY.out _).mono ?_
  rintro e w' ⟨rfl, rfl⟩
  go_wp2_with fail
  refine (HC.out _).mono ?_
  rintro e w' ⟨rfl, rfl⟩
  go_wp2_with fail
  refine (HYES.out _ _).mono ?_
  rintro e w' ⟨rfl, rfl⟩
  go_wp2_with fail
  go_ret3
  exact ⟨rfl, rfl⟩
theorem rtwo_7 (op a b n x y : Int) (C : Bool) (hk : KindIs op 7 n) (hlx : LowIs n a x) (hly : LowIs n b y) (hc : CmpIs 7 x y n C) : RefIs op a b (b2i C) 0 true := by
  intro w
  have HK := Lib.hid hk
  have HLX := Lib.hid hlx
  have HLY := Lib.hid hly
  have HC := Lib.hid hc
  have HYES := Lib.hid yes_is
  clear hk hlx hly hc
  go_enter Tryd.func19, Tryd.ntmps19
  go_wp2_with fail
  refine (HK.out _).mono ?_
  rintro e w' ⟨rfl, rfl⟩
  go_wp2_with fail
  refine (HLX.out _).mono ?_
  rintro e w' ⟨rfl, rfl⟩
  go_wp2_with fail
  refine (HLY.out _).mono ?_
  rintro e w' ⟨rfl, rfl⟩
  go_wp2_with fail
  refine (HC.out _).mono ?_
  rintro e w' ⟨rfl, rfl⟩
  go_wp2_with fail
  refine (HYES.out _ _).mono ?_
  rintro e w' ⟨rfl, rfl⟩
  go_wp2_with fail
  go_ret3
  exact ⟨rfl, rfl⟩
theorem rtwo_8 (op a b n x y : Int) (C : Bool) (hk : KindIs op 8 n) (hlx : LowIs n a x) (hly : LowIs n b y) (hc : CmpIs 8 x y n C) : RefIs op a b (b2i C) 0 true := by
  intro w
  have HK := Lib.hid hk
  have HLX := Lib.hid hlx
  have HLY := Lib.hid hly
  have HC := Lib.hid hc
  have HYES := Lib.hid yes_is
  clear hk hlx hly hc
  go_enter Tryd.func19, Tryd.ntmps19
  go_wp2_with fail
  refine (HK.out _).mono ?_
  rintro e w' ⟨rfl, rfl⟩
  go_wp2_with fail
  refine (HLX.out _).mono ?_
  rintro e w' ⟨rfl, rfl⟩
  go_wp2_with fail
  refine (HLY.out _).mono ?_
  rintro e w' ⟨rfl, rfl⟩
  go_wp2_with fail
  refine (HC.out _).mono ?_
  rintro e w' ⟨rfl, rfl⟩
  go_wp2_with fail
  refine (HYES.out _ _).mono ?_
  rintro e w' ⟨rfl, rfl⟩
  go_wp2_with fail
  go_ret3
  exact ⟨rfl, rfl⟩
theorem rtwo_9 (op a b n x y : Int) (C : Bool) (hk : KindIs op 9 n) (hlx : LowIs n a x) (hly : LowIs n b y) (hc : CmpIs 9 x y n C) : RefIs op a b (b2i C) 0 true := by
  intro w
  have HK := Lib.hid hk
  have HLX := Lib.hid hlx
  have HLY := Lib.hid hly
  have HC := Lib.hid hc
  have HYES := Lib.hid yes_is
  clear hk hlx hly hc
  go_enter Tryd.func19, Tryd.ntmps19
  go_wp2_with fail
  refine (HK.out _).mono ?_
  rintro e w' ⟨rfl, rfl⟩
  go_wp2_with fail
  refine (HLX.out _).mono ?_
  rintro e w' ⟨rfl, rfl⟩
  go_wp2_with fail
  refine (HLY.out _).mono ?_
  rintro e w' ⟨rfl, rfl⟩
  go_wp2_with fail
  refine (HC.out _).mono ?_
  rintro e w' ⟨rfl, rfl⟩
  go_wp2_with fail
  refine (HYES.out _ _).mono ?_
  rintro e w' ⟨rfl, rfl⟩
  go_wp2_with fail
  go_ret3
  exact ⟨rfl, rfl⟩
theorem rtwo_10 (op a b n x y : Int) (C : Bool) (hk : KindIs op 10 n) (hlx : LowIs n a x) (hly : LowIs n b y) (hc : CmpIs 10 x y n C) : RefIs op a b (b2i C) 0 true := by
  intro w
  have HK := Lib.hid hk
  have HLX := Lib.hid hlx
  have HLY := Lib.hid hly
  have HC := Lib.hid hc
  have HYES := Lib.hid yes_is
  clear hk hlx hly hc
  go_enter Tryd.func19, Tryd.ntmps19
  go_wp2_with fail
  refine (HK.out _).mono ?_
  rintro e w' ⟨rfl, rfl⟩
  go_wp2_with fail
  refine (HLX.out _).mono ?_
  rintro e w' ⟨rfl, rfl⟩
  go_wp2_with fail
  refine (HLY.out _).mono ?_
  rintro e w' ⟨rfl, rfl⟩
  go_wp2_with fail
  refine (HC.out _).mono ?_
  rintro e w' ⟨rfl, rfl⟩
  go_wp2_with fail
  refine (HYES.out _ _).mono ?_
  rintro e w' ⟨rfl, rfl⟩
  go_wp2_with fail
  go_ret3
  exact ⟨rfl, rfl⟩
theorem rtwo_14 (op a b n x y : Int) (v : Int) (hk : KindIs op 14 n) (hlx : LowIs n a x) (hly : LowIs n b y) (hv : LowIs n (IntKind.u64.wrap (x + y)) v) : RefIs op a b v 0 true := by
  intro w
  have HK := Lib.hid hk
  have HLX := Lib.hid hlx
  have HLY := Lib.hid hly
  have HV := Lib.hid hv
  clear hk hlx hly hv
  go_enter Tryd.func19, Tryd.ntmps19
  go_wp2_with fail
  refine (HK.out _).mono ?_
  rintro e w' ⟨rfl, rfl⟩
  go_wp2_with fail
  refine (HLX.out _).mono ?_
  rintro e w' ⟨rfl, rfl⟩
  go_wp2_with fail
  refine (HLY.out _).mono ?_
  rintro e w' ⟨rfl, rfl⟩
  go_wp2_with fail
  refine (HV.out _).mono ?_
  rintro e w' ⟨rfl, rfl⟩
  go_wp2_with fail
  go_ret3
  exact ⟨rfl, rfl⟩
theorem rtwo_15 (op a b n x y : Int) (v : Int) (hk : KindIs op 15 n) (hlx : LowIs n a x) (hly : LowIs n b y) (hv : LowIs n (IntKind.u64.wrap (x - y)) v) : RefIs op a b v 0 true := by
  intro w
  have HK := Lib.hid hk
  have HLX := Lib.hid hlx
  have HLY := Lib.hid hly
  have HV := Lib.hid hv
  clear hk hlx hly hv
  go_enter Tryd.func19, Tryd.ntmps19
  go_wp2_with fail
  refine (HK.out _).mono ?_
  rintro e w' ⟨rfl, rfl⟩
  go_wp2_with fail
  refine (HLX.out _).mono ?_
  rintro e w' ⟨rfl, rfl⟩
  go_wp2_with fail
  refine (HLY.out _).mono ?_
  rintro e w' ⟨rfl, rfl⟩
  go_wp2_with fail
  refine (HV.out _).mono ?_
  rintro e w' ⟨rfl, rfl⟩
  go_wp2_with fail
  go_ret3
  exact ⟨rfl, rfl⟩
theorem rtwo_16 (op a b n x y : Int) (v : Int) (hk : KindIs op 16 n) (hlx : LowIs n a x) (hly : LowIs n b y) (hv : LowIs n (IntKind.u64.wrap (x * y)) v) : RefIs op a b v 0 true := by
  intro w
  have HK := Lib.hid hk
  have HLX := Lib.hid hlx
  have HLY := Lib.hid hly
  have HV := Lib.hid hv
  clear hk hlx hly hv
  go_enter Tryd.func19, Tryd.ntmps19
  go_wp2_with fail
  refine (HK.out _).mono ?_
  rintro e w' ⟨rfl, rfl⟩
  go_wp2_with fail
  refine (HLX.out _).mono ?_
  rintro e w' ⟨rfl, rfl⟩
  go_wp2_with fail
  refine (HLY.out _).mono ?_
  rintro e w' ⟨rfl, rfl⟩
  go_wp2_with fail
  refine (HV.out _).mono ?_
  rintro e w' ⟨rfl, rfl⟩
  go_wp2_with fail
  go_ret3
  exact ⟨rfl, rfl⟩
theorem rtwo_17 (op a b n x y : Int) (v t : Int) (hk : KindIs op 17 n) (hlx : LowIs n a x) (hly : LowIs n b y) (hd : DivIs 0 x y n v t) : RefIs op a b v t true := by
  intro w
  have HK := Lib.hid hk
  have HLX := Lib.hid hlx
  have HLY := Lib.hid hly
  have HD := Lib.hid hd
  clear hk hlx hly hd
  go_enter Tryd.func19, Tryd.ntmps19
  go_wp2_with fail
  refine (HK.out _).mono ?_
  rintro e w' ⟨rfl, rfl⟩
  go_wp2_with fail
  refine (HLX.out _).mono ?_
  rintro e w' ⟨rfl, rfl⟩
  go_wp2_with fail
  refine (HLY.out _).mono ?_
  rintro e w' ⟨rfl, rfl⟩
  go_wp2_with fail
  refine (HD.out _).mono ?_
  rintro e w' ⟨rfl, rfl⟩
  go_wp2_with fail
  go_ret3
  exact ⟨rfl, rfl⟩
theorem rtwo_18 (op a b n x y : Int) (v t : Int) (hk : KindIs op 18 n) (hlx : LowIs n a x) (hly : LowIs n b y) (hd : DivIs 1 x y n v t) : RefIs op a b v t true := by
  intro w
  have HK := Lib.hid hk
  have HLX := Lib.hid hlx
  have HLY := Lib.hid hly
  have HD := Lib.hid hd
  clear hk hlx hly hd
  go_enter Tryd.func19, Tryd.ntmps19
  go_wp2_with fail
  refine (HK.out _).mono ?_
  rintro e w' ⟨rfl, rfl⟩
  go_wp2_with fail
  refine (HLX.out _).mono ?_
  rintro e w' ⟨rfl, rfl⟩
  go_wp2_with fail
  refine (HLY.out _).mono ?_
  rintro e w' ⟨rfl, rfl⟩
  go_wp2_with fail
  refine (HD.out _).mono ?_
  rintro e w' ⟨rfl, rfl⟩
  go_wp2_with fail
  go_ret3
  exact ⟨rfl, rfl⟩
theorem rtwo_19 (op a b n x y : Int) (v t : Int) (hk : KindIs op 19 n) (hlx : LowIs n a x) (hly : LowIs n b y) (hd : DivIs 2 x y n v t) : RefIs op a b v t true := by
  intro w
  have HK := Lib.hid hk
  have HLX := Lib.hid hlx
  have HLY := Lib.hid hly
  have HD := Lib.hid hd
  clear hk hlx hly hd
  go_enter Tryd.func19, Tryd.ntmps19
  go_wp2_with fail
  refine (HK.out _).mono ?_
  rintro e w' ⟨rfl, rfl⟩
  go_wp2_with fail
  refine (HLX.out _).mono ?_
  rintro e w' ⟨rfl, rfl⟩
  go_wp2_with fail
  refine (HLY.out _).mono ?_
  rintro e w' ⟨rfl, rfl⟩
  go_wp2_with fail
  refine (HD.out _).mono ?_
  rintro e w' ⟨rfl, rfl⟩
  go_wp2_with fail
  go_ret3
  exact ⟨rfl, rfl⟩
theorem rtwo_20 (op a b n x y : Int) (v t : Int) (hk : KindIs op 20 n) (hlx : LowIs n a x) (hly : LowIs n b y) (hd : DivIs 3 x y n v t) : RefIs op a b v t true := by
  intro w
  have HK := Lib.hid hk
  have HLX := Lib.hid hlx
  have HLY := Lib.hid hly
  have HD := Lib.hid hd
  clear hk hlx hly hd
  go_enter Tryd.func19, Tryd.ntmps19
  go_wp2_with fail
  refine (HK.out _).mono ?_
  rintro e w' ⟨rfl, rfl⟩
  go_wp2_with fail
  refine (HLX.out _).mono ?_
  rintro e w' ⟨rfl, rfl⟩
  go_wp2_with fail
  refine (HLY.out _).mono ?_
  rintro e w' ⟨rfl, rfl⟩
  go_wp2_with fail
  refine (HD.out _).mono ?_
  rintro e w' ⟨rfl, rfl⟩
  go_wp2_with fail
  go_ret3
  exact ⟨rfl, rfl⟩
theorem rtwo_21 (op a b n x y : Int) (hk : KindIs op 21 n) (hlx : LowIs n a x) (hly : LowIs n b y) : RefIs op a b (bits .and .u64 x y) 0 true := by
  intro w
  have HK := Lib.hid hk
  have HLX := Lib.hid hlx
  have HLY := Lib.hid hly
  clear hk hlx hly
  go_enter Tryd.func19, Tryd.ntmps19
  go_wp2_with fail
  refine (HK.out _).mono ?_
  rintro e w' ⟨rfl, rfl⟩
  go_wp2_with fail
  refine (HLX.out _).mono ?_
  rintro e w' ⟨rfl, rfl⟩
  go_wp2_with fail
  refine (HLY.out _).mono ?_
  rintro e w' ⟨rfl, rfl⟩
  go_wp2_with fail
  go_ret3
  exact ⟨rfl, rfl⟩
theorem rtwo_22 (op a b n x y : Int) (hk : KindIs op 22 n) (hlx : LowIs n a x) (hly : LowIs n b y) : RefIs op a b (bits .or .u64 x y) 0 true := by
  intro w
  have HK := Lib.hid hk
  have HLX := Lib.hid hlx
  have HLY := Lib.hid hly
  clear hk hlx hly
  go_enter Tryd.func19, Tryd.ntmps19
  go_wp2_with fail
  refine (HK.out _).mono ?_
  rintro e w' ⟨rfl, rfl⟩
  go_wp2_with fail
  refine (HLX.out _).mono ?_
  rintro e w' ⟨rfl, rfl⟩
  go_wp2_with fail
  refine (HLY.out _).mono ?_
  rintro e w' ⟨rfl, rfl⟩
  go_wp2_with fail
  go_ret3
  exact ⟨rfl, rfl⟩
theorem rtwo_23 (op a b n x y : Int) (hk : KindIs op 23 n) (hlx : LowIs n a x) (hly : LowIs n b y) : RefIs op a b (bits .xor .u64 x y) 0 true := by
  intro w
  have HK := Lib.hid hk
  have HLX := Lib.hid hlx
  have HLY := Lib.hid hly
  clear hk hlx hly
  go_enter Tryd.func19, Tryd.ntmps19
  go_wp2_with fail
  refine (HK.out _).mono ?_
  rintro e w' ⟨rfl, rfl⟩
  go_wp2_with fail
  refine (HLX.out _).mono ?_
  rintro e w' ⟨rfl, rfl⟩
  go_wp2_with fail
  refine (HLY.out _).mono ?_
  rintro e w' ⟨rfl, rfl⟩
  go_wp2_with fail
  go_ret3
  exact ⟨rfl, rfl⟩
theorem rtwo_24_32 (op a b x y v : Int) (y0 : 0 ≤ y) (hk : KindIs op 24 32) (hlx : LowIs 32 a x) (hly : LowIs 32 b y) (hv : TrnIs 0 x (y % 32) 32 v) : RefIs op a b v 0 true := by
  intro w
  have HK := Lib.hid hk
  have HLX := Lib.hid hlx
  have HLY := Lib.hid hly
  have HV := Lib.hid hv
  clear hk hlx hly hv
  go_enter Tryd.func19, Tryd.ntmps19
  go_wp2_with fail
  refine (HK.out _).mono ?_
  rintro e w' ⟨rfl, rfl⟩
  go_wp2_with fail
  refine (HLX.out _).mono ?_
  rintro e w' ⟨rfl, rfl⟩
  go_wp2_with fail
  refine (HLY.out _).mono ?_
  rintro e w' ⟨rfl, rfl⟩
  go_wp2_with fail
  refine (HV.out _).mono ?_
  rintro e w' ⟨rfl, rfl⟩
  go_wp2_with fail
  go_ret3
  exact ⟨rfl, rfl⟩
theorem rtwo_24_64 (op a b x y v : Int) (y0 : 0 ≤ y) (hk : KindIs op 24 64) (hlx : LowIs 64 a x) (hly : LowIs 64 b y) (hv : TrnIs 0 x (y % 64) 64 v) : RefIs op a b v 0 true := by
  intro w
  have HK := Lib.hid hk
  have HLX := Lib.hid hlx
  have HLY := Lib.hid hly
  have HV := Lib.hid hv
  clear hk hlx hly hv
  go_enter Tryd.func19, Tryd.ntmps19
  go_wp2_with fail
  refine (HK.out _).mono ?_
  rintro e w' ⟨rfl, rfl⟩
  go_wp2_with fail
  refine (HLX.out _).mono ?_
  rintro e w' ⟨rfl, rfl⟩
  go_wp2_with fail
  refine (HLY.out _).mono ?_
  rintro e w' ⟨rfl, rfl⟩
  go_wp2_with fail
  refine (HV.out _).mono ?_
  rintro e w' ⟨rfl, rfl⟩
  go_wp2_with fail
  go_ret3
  exact ⟨rfl, rfl⟩
theorem rtwo_25_32 (op a b x y v : Int) (y0 : 0 ≤ y) (hk : KindIs op 25 32) (hlx : LowIs 32 a x) (hly : LowIs 32 b y) (hv : TrnIs 1 x (y % 32) 32 v) : RefIs op a b v 0 true := by
  intro w
  have HK := Lib.hid hk
  have HLX := Lib.hid hlx
  have HLY := Lib.hid hly
  have HV := Lib.hid hv
  clear hk hlx hly hv
  go_enter Tryd.func19, Tryd.ntmps19
  go_wp2_with fail
  refine (HK.out _).mono ?_
  rintro e w' ⟨rfl, rfl⟩
  go_wp2_with fail
  refine (HLX.out _).mono ?_
  rintro e w' ⟨rfl, rfl⟩
  go_wp2_with fail
  refine (HLY.out _).mono ?_
  rintro e w' ⟨rfl, rfl⟩
  go_wp2_with fail
  refine (HV.out _).mono ?_
  rintro e w' ⟨rfl, rfl⟩
  go_wp2_with fail
  go_ret3
  exact ⟨rfl, rfl⟩
theorem rtwo_25_64 (op a b x y v : Int) (y0 : 0 ≤ y) (hk : KindIs op 25 64) (hlx : LowIs 64 a x) (hly : LowIs 64 b y) (hv : TrnIs 1 x (y % 64) 64 v) : RefIs op a b v 0 true := by
  intro w
  have HK := Lib.hid hk
  have HLX := Lib.hid hlx
  have HLY := Lib.hid hly
  have HV := Lib.hid hv
  clear hk hlx hly hv
  go_enter Tryd.func19, Tryd.ntmps19
  go_wp2_with fail
  refine (HK.out _).mono ?_
  rintro e w' ⟨rfl, rfl⟩
  go_wp2_with fail
  refine (HLX.out _).mono ?_
  rintro e w' ⟨rfl, rfl⟩
  go_wp2_with fail
  refine (HLY.out _).mono ?_
  rintro e w' ⟨rfl, rfl⟩
  go_wp2_with fail
  refine (HV.out _).mono ?_
  rintro e w' ⟨rfl, rfl⟩
  go_wp2_with fail
  go_ret3
  exact ⟨rfl, rfl⟩
theorem rtwo_26_32 (op a b x y v : Int) (y0 : 0 ≤ y) (hk : KindIs op 26 32) (hlx : LowIs 32 a x) (hly : LowIs 32 b y) (hv : TrnIs 2 x (y % 32) 32 v) : RefIs op a b v 0 true := by
  intro w
  have HK := Lib.hid hk
  have HLX := Lib.hid hlx
  have HLY := Lib.hid hly
  have HV := Lib.hid hv
  clear hk hlx hly hv
  go_enter Tryd.func19, Tryd.ntmps19
  go_wp2_with fail
  refine (HK.out _).mono ?_
  rintro e w' ⟨rfl, rfl⟩
  go_wp2_with fail
  refine (HLX.out _).mono ?_
  rintro e w' ⟨rfl, rfl⟩
  go_wp2_with fail
  refine (HLY.out _).mono ?_
  rintro e w' ⟨rfl, rfl⟩
  go_wp2_with fail
  refine (HV.out _).mono ?_
  rintro e w' ⟨rfl, rfl⟩
  go_wp2_with fail
  go_ret3
  exact ⟨rfl, rfl⟩
theorem rtwo_26_64 (op a b x y v : Int) (y0 : 0 ≤ y) (hk : KindIs op 26 64) (hlx : LowIs 64 a x) (hly : LowIs 64 b y) (hv : TrnIs 2 x (y % 64) 64 v) : RefIs op a b v 0 true := by
  intro w
  have HK := Lib.hid hk
  have HLX := Lib.hid hlx
  have HLY := Lib.hid hly
  have HV := Lib.hid hv
  clear hk hlx hly hv
  go_enter Tryd.func19, Tryd.ntmps19
  go_wp2_with fail
  refine (HK.out _).mono ?_
  rintro e w' ⟨rfl, rfl⟩
  go_wp2_with fail
  refine (HLX.out _).mono ?_
  rintro e w' ⟨rfl, rfl⟩
  go_wp2_with fail
  refine (HLY.out _).mono ?_
  rintro e w' ⟨rfl, rfl⟩
  go_wp2_with fail
  refine (HV.out _).mono ?_
  rintro e w' ⟨rfl, rfl⟩
  go_wp2_with fail
  go_ret3
  exact ⟨rfl, rfl⟩
theorem rtwo_27_32 (op a b x y v : Int) (y0 : 0 ≤ y) (hk : KindIs op 27 32) (hlx : LowIs 32 a x) (hly : LowIs 32 b y) (hv : TrnIs 3 x (y % 32) 32 v) : RefIs op a b v 0 true := by
  intro w
  have HK := Lib.hid hk
  have HLX := Lib.hid hlx
  have HLY := Lib.hid hly
  have HV := Lib.hid hv
  clear hk hlx hly hv
  go_enter Tryd.func19, Tryd.ntmps19
  go_wp2_with fail
  refine (HK.out _).mono ?_
  rintro e w' ⟨rfl, rfl⟩
  go_wp2_with fail
  refine (HLX.out _).mono ?_
  rintro e w' ⟨rfl, rfl⟩
  go_wp2_with fail
  refine (HLY.out _).mono ?_
  rintro e w' ⟨rfl, rfl⟩
  go_wp2_with fail
  refine (HV.out _).mono ?_
  rintro e w' ⟨rfl, rfl⟩
  go_wp2_with fail
  go_ret3
  exact ⟨rfl, rfl⟩
theorem rtwo_27_64 (op a b x y v : Int) (y0 : 0 ≤ y) (hk : KindIs op 27 64) (hlx : LowIs 64 a x) (hly : LowIs 64 b y) (hv : TrnIs 3 x (y % 64) 64 v) : RefIs op a b v 0 true := by
  intro w
  have HK := Lib.hid hk
  have HLX := Lib.hid hlx
  have HLY := Lib.hid hly
  have HV := Lib.hid hv
  clear hk hlx hly hv
  go_enter Tryd.func19, Tryd.ntmps19
  go_wp2_with fail
  refine (HK.out _).mono ?_
  rintro e w' ⟨rfl, rfl⟩
  go_wp2_with fail
  refine (HLX.out _).mono ?_
  rintro e w' ⟨rfl, rfl⟩
  go_wp2_with fail
  refine (HLY.out _).mono ?_
  rintro e w' ⟨rfl, rfl⟩
  go_wp2_with fail
  refine (HV.out _).mono ?_
  rintro e w' ⟨rfl, rfl⟩
  go_wp2_with fail
  go_ret3
  exact ⟨rfl, rfl⟩
theorem rtwo_28_32 (op a b x y v : Int) (y0 : 0 ≤ y) (hk : KindIs op 28 32) (hlx : LowIs 32 a x) (hly : LowIs 32 b y) (hv : TrnIs 4 x (y % 32) 32 v) : RefIs op a b v 0 true := by
  intro w
  have HK := Lib.hid hk
  have HLX := Lib.hid hlx
  have HLY := Lib.hid hly
  have HV := Lib.hid hv
  clear hk hlx hly hv
  go_enter Tryd.func19, Tryd.ntmps19
  go_wp2_with fail
  refine (HK.out _).mono ?_
  rintro e w' ⟨rfl, rfl⟩
  go_wp2_with fail
  refine (HLX.out _).mono ?_
  rintro e w' ⟨rfl, rfl⟩
  go_wp2_with fail
  refine (HLY.out _).mono ?_
  rintro e w' ⟨rfl, rfl⟩
  go_wp2_with fail
  refine (HV.out _).mono ?_
  rintro e w' ⟨rfl, rfl⟩
  go_wp2_with fail
  go_ret3
  exact ⟨rfl, rfl⟩
theorem rtwo_28_64 (op a b x y v : Int) (y0 : 0 ≤ y) (hk : KindIs op 28 64) (hlx : LowIs 64 a x) (hly : LowIs 64 b y) (hv : TrnIs 4 x (y % 64) 64 v) : RefIs op a b v 0 true := by
  intro w
  have HK := Lib.hid hk
  have HLX := Lib.hid hlx
  have HLY := Lib.hid hly
  have HV := Lib.hid hv
  clear hk hlx hly hv
  go_enter Tryd.func19, Tryd.ntmps19
  go_wp2_with fail
  refine (HK.out _).mono ?_
  rintro e w' ⟨rfl, rfl⟩
  go_wp2_with fail
  refine (HLX.out _).mono ?_
  rintro e w' ⟨rfl, rfl⟩
  go_wp2_with fail
  refine (HLY.out _).mono ?_
  rintro e w' ⟨rfl, rfl⟩
  go_wp2_with fail
  refine (HV.out _).mono ?_
  rintro e w' ⟨rfl, rfl⟩
  go_wp2_with fail
  go_ret3
  exact ⟨rfl, rfl⟩
theorem rtwo_lo (op a b k n : Int) (hk : KindIs op k n) (h : k < 1) : RefIs op a b 0 0 false := by
  intro w
  have HK := Lib.hid hk
  clear hk
  go_enter Tryd.func19, Tryd.ntmps19
  go_wp2_with fail
  refine (HK.out _).mono ?_
  rintro e w' ⟨rfl, rfl⟩
  go_wp2_with fail
  go_ret3
  exact ⟨rfl, rfl⟩
theorem rtwo_11 (op a b n : Int) (hk : KindIs op 11 n) : RefIs op a b 0 0 false := by
  intro w
  have HK := Lib.hid hk
  clear hk
  go_enter Tryd.func19, Tryd.ntmps19
  go_wp2_with fail
  refine (HK.out _).mono ?_
  rintro e w' ⟨rfl, rfl⟩
  go_wp2_with fail
  go_ret3
  exact ⟨rfl, rfl⟩
theorem rtwo_12 (op a b n : Int) (hk : KindIs op 12 n) : RefIs op a b 0 0 false := by
  intro w
  have HK := Lib.hid hk
  clear hk
  go_enter Tryd.func19, Tryd.ntmps19
  go_wp2_with fail
  refine (HK.out _).mono ?_
  rintro e w' ⟨rfl, rfl⟩
  go_wp2_with fail
  go_ret3
  exact ⟨rfl, rfl⟩
theorem rtwo_13 (op a b n : Int) (hk : KindIs op 13 n) : RefIs op a b 0 0 false := by
  intro w
  have HK := Lib.hid hk
  clear hk
  go_enter Tryd.func19, Tryd.ntmps19
  go_wp2_with fail
  refine (HK.out _).mono ?_
  rintro e w' ⟨rfl, rfl⟩
  go_wp2_with fail
  go_ret3
  exact ⟨rfl, rfl⟩
theorem rone_167 (a k n v : Int) (hk : KindIs 167 k n) (hv : LowIs 32 a v) : RefOne 167 a v true := by
  intro w
  have HK := Lib.hid hk
  have HV := Lib.hid hv
  clear hk hv
  go_enter Tryd.func17, Tryd.ntmps17
  go_wp2_with fail
  refine (HK.out _).mono ?_
  rintro e w' ⟨rfl, rfl⟩
  go_wp2_with fail
  refine (HV.out _).mono ?_
  rintro e w' ⟨rfl, rfl⟩
  go_wp2_with fail
  go_ret2
  exact ⟨rfl, rfl⟩
theorem rone_173 (a k n v : Int) (hk : KindIs 173 k n) (hv : LowIs 32 a v) : RefOne 173 a v true := by
  intro w
  have HK := Lib.hid hk
  have HV := Lib.hid hv
  clear hk hv
  go_enter Tryd.func17, Tryd.ntmps17
  go_wp2_with fail
  refine (HK.out _).mono ?_
  rintro e w' ⟨rfl, rfl⟩
  go_wp2_with fail
  refine (HV.out _).mono ?_
  rintro e w' ⟨rfl, rfl⟩
  go_wp2_with fail
  go_ret2
  exact ⟨rfl, rfl⟩
theorem rone_172 (a k n x s : Int) (hk : KindIs 172 k n) (hv : LowIs 32 a x) (hs : ∀ w, Calls Tryd.prog 33 #[.int .u64 x, .int .i64 32] w fun e w' => e = .returned (.int .i64 s) ∧ w = w') : RefOne 172 a (IntKind.u64.wrap s) true := by
  intro w
  have HK := Lib.hid hk
  have HV := Lib.hid hv
  have HS := Lib.hid hs
  clear hk hv hs
  go_enter Tryd.func17, Tryd.ntmps17
  go_wp2_with fail
  refine (HK.out _).mono ?_
  rintro e w' ⟨rfl, rfl⟩
  go_wp2_with fail
  refine (HV.out _).mono ?_
  rintro e w' ⟨rfl, rfl⟩
  go_wp2_with fail
  refine (HS.out _).mono ?_
  rintro e w' ⟨rfl, rfl⟩
  go_wp2_with fail
  go_ret2
  exact ⟨rfl, rfl⟩
theorem rone_0 (op a n x : Int) (e1 : (op == 167) = false) (e2 : (op == 173) = false) (e3 : (op == 172) = false) (hk : KindIs op 0 n) (hv : LowIs n a x) : RefOne op a (b2i (x == 0)) true := by
  intro w
  have HK := Lib.hid hk
  have HV := Lib.hid hv
  have HYES := Lib.hid yes_is
  clear hk hv
  go_enter Tryd.func17, Tryd.ntmps17
  go_wp2_with fail
  refine (HK.out _).mono ?_
  rintro e w' ⟨rfl, rfl⟩
  go_wp2_with fail
  refine (HV.out _).mono ?_
  rintro e w' ⟨rfl, rfl⟩
  go_wp2_with fail
  refine (HYES.out _ _).mono ?_
  rintro e w' ⟨rfl, rfl⟩
  go_wp2_with fail
  go_ret2
  exact ⟨rfl, rfl⟩
theorem rone_11 (op a n x v : Int) (e1 : (op == 167) = false) (e2 : (op == 173) = false) (e3 : (op == 172) = false) (hk : KindIs op 11 n) (hx : LowIs n a x) (hv : CntIs 0 x n v) : RefOne op a v true := by
  intro w
  have HK := Lib.hid hk
  have HX := Lib.hid hx
  have HV := Lib.hid hv
  clear hk hx hv
  go_enter Tryd.func17, Tryd.ntmps17
  go_wp2_with fail
  refine (HK.out _).mono ?_
  rintro e w' ⟨rfl, rfl⟩
  go_wp2_with fail
  refine (HX.out _).mono ?_
  rintro e w' ⟨rfl, rfl⟩
  go_wp2_with fail
  refine (HV.out _).mono ?_
  rintro e w' ⟨rfl, rfl⟩
  go_wp2_with fail
  go_ret2
  exact ⟨rfl, rfl⟩
theorem rone_12 (op a n x v : Int) (e1 : (op == 167) = false) (e2 : (op == 173) = false) (e3 : (op == 172) = false) (hk : KindIs op 12 n) (hx : LowIs n a x) (hv : CntIs 1 x n v) : RefOne op a v true := by
  intro w
  have HK := Lib.hid hk
  have HX := Lib.hid hx
  have HV := Lib.hid hv
  clear hk hx hv
  go_enter Tryd.func17, Tryd.ntmps17
  go_wp2_with fail
  refine (HK.out _).mono ?_
  rintro e w' ⟨rfl, rfl⟩
  go_wp2_with fail
  refine (HX.out _).mono ?_
  rintro e w' ⟨rfl, rfl⟩
  go_wp2_with fail
  refine (HV.out _).mono ?_
  rintro e w' ⟨rfl, rfl⟩
  go_wp2_with fail
  go_ret2
  exact ⟨rfl, rfl⟩
theorem rone_13 (op a n x v : Int) (e1 : (op == 167) = false) (e2 : (op == 173) = false) (e3 : (op == 172) = false) (hk : KindIs op 13 n) (hx : LowIs n a x) (hv : CntIs 2 x n v) : RefOne op a v true := by
  intro w
  have HK := Lib.hid hk
  have HX := Lib.hid hx
  have HV := Lib.hid hv
  clear hk hx hv
  go_enter Tryd.func17, Tryd.ntmps17
  go_wp2_with fail
  refine (HK.out _).mono ?_
  rintro e w' ⟨rfl, rfl⟩
  go_wp2_with fail
  refine (HX.out _).mono ?_
  rintro e w' ⟨rfl, rfl⟩
  go_wp2_with fail
  refine (HV.out _).mono ?_
  rintro e w' ⟨rfl, rfl⟩
  go_wp2_with fail
  go_ret2
  exact ⟨rfl, rfl⟩
theorem rone_no (op a k n : Int) (e1 : (op == 167) = false) (e2 : (op == 173) = false) (e3 : (op == 172) = false) (hk : KindIs op k n) (h0 : (k == 0) = false) (h1 : k < 11) : RefOne op a 0 false := by
  intro w
  have HK := Lib.hid hk
  clear hk
  go_enter Tryd.func17, Tryd.ntmps17
  go_wp2_with fail
  refine (HK.out _).mono ?_
  rintro e w' ⟨rfl, rfl⟩
  go_wp2_with fail
  go_ret2
  exact ⟨rfl, rfl⟩
theorem rone_hi (op a k n : Int) (e1 : (op == 167) = false) (e2 : (op == 173) = false) (e3 : (op == 172) = false) (hk : KindIs op k n) (h0 : (k == 0) = false) (h1 : 11 ≤ k) (h2 : decide (k ≤ 13) = false) : RefOne op a 0 false := by
  intro w
  have HK := Lib.hid hk
  clear hk
  go_enter Tryd.func17, Tryd.ntmps17
  go_wp2_with fail
  refine (HK.out _).mono ?_
  rintro e w' ⟨rfl, rfl⟩
  go_wp2_with fail
  go_ret2
  exact ⟨rfl, rfl⟩
end Go.Proofs.YtoclfldmkipokaaDoor.Ints
