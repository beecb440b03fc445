/- InsKind, InsAccess, InsReader, InsInstr, InsTable, InsRead, InsSame, InsPKind, InsPSame. -/
import Derived.Test.YtlappkflnlbfcaaGreatDoorPkIntsAll
import Derived.Test.YtlappkflnlbfcaaGreatDoorPkLebTwo
import Derived.Deep.QuietTactic
import Derived.BigQuiet
import Derived.Test.YtlappkflnlbfcaaGreatDoorPkStabAll
import Derived.Deep.RegionHeld
import Derived.Deep.RegionLaw
section
namespace Go.Proofs.YtlappkflnlbfcaaGreatDoor.Ins
open Lib (hid)
open Go.RowKit Ints Typ
set_option maxRecDepth 100000
set_option maxHeartbeats 2000000
def kd (op:Int):Int:=
 if 2<=op/\op<=4 then 2 else if op=12\/op=13\/op=16\/(32<=op/\op<=36) then 3 else if op=14 then 4 else if op=17 then 5
 else if op=40\/op=41\/(44<=op/\op<=55)\/(58<=op/\op<=62) then 6 else if op=63\/op=64 then 7 else if op=65 then 8 else if op=66 then 9
 else if op=0\/op=1\/op=5\/op=11\/op=15\/op=26\/op=27 then 1 else if (69<=op/\op<=90)\/(103<=op/\op<=138)\/op=167\/op=172\/op=173 then 1 else 0
theorem kd_range (op:Int):0<=kd op/\kd op<=9:=by
 unfold kd
 repeat' (first | (split;omega) | omega)
theorem kd_low {op:Int}(h:op<0):kd op=0:=by unfold kd;iterate 10 (rw[if_neg (by omega)])
theorem kd_high {op:Int}(h:173<op):kd op=0:=by unfold kd;iterate 10 (rw[if_neg (by omega)])
def KdTold (op:Int)(w:World)(e:Ending)(w':World):Prop:=e= .returned (.int .i64 (kd op))/\Below w.heap.size w w'
theorem gap0 (op:Int)(b:Bool)(w:World)(h:op<=-1)(hs:Calls Tryz.prog 30 #[.int .i64 op] w fun e w'=>∃A n T,e= .returned (.tuple #[.slice A n n,.int .u8 T,.bool b])/\Below w.heap.size w w'):Calls Tryz.prog 63 #[.int .i64 op] w fun e w'=>e= .returned (.int .i64 (bif b then 1 else 0))/\Below w.heap.size w w':=by
 have HS:=hid hs
 have q12:(op == 12)=false:=by simp;omega
 have q13:(op == 13)=false:=by simp;omega
 have q16:(op == 16)=false:=by simp;omega
 have q14:(op == 14)=false:=by simp;omega
 have q17:(op == 17)=false:=by simp;omega
 have q40:(op == 40)=false:=by simp;omega
 have q41:(op == 41)=false:=by simp;omega
 have q63:(op == 63)=false:=by simp;omega
 have q64:(op == 64)=false:=by simp;omega
 have q65:(op == 65)=false:=by simp;omega
 have q66:(op == 66)=false:=by simp;omega
 have q0:(op == 0)=false:=by simp;omega
 have q1:(op == 1)=false:=by simp;omega
 have q5:(op == 5)=false:=by simp;omega
 have q11:(op == 11)=false:=by simp;omega
 have q15:(op == 15)=false:=by simp;omega
 have q26:(op == 26)=false:=by simp;omega
 have q27:(op == 27)=false:=by simp;omega
 have l2:decide (2<=op)=false:=by simp;omega
 have l32:decide (32<=op)=false:=by simp;omega
 have l44:decide (44<=op)=false:=by simp;omega
 have l58:decide (58<=op)=false:=by simp;omega
 have u4:decide (op<=4)=true:=by simp;omega
 have u36:decide (op<=36)=true:=by simp;omega
 have u55:decide (op<=55)=true:=by simp;omega
 have u62:decide (op<=62)=true:=by simp;omega
 clear h hs
 cases b with
 | true=>
  go_enter Tryz.func63,Tryz.ntmps63
  go_wp2_with fail
  refine HS.out.mono ?_
  rintro e w' ⟨A,n,T,rfl,hb⟩
  have HB:=hid hb
  clear hb
  go_wp2_with fail
  go_ret
  exact⟨rfl,HB.out⟩
 | false=>
  go_enter Tryz.func63,Tryz.ntmps63
  go_wp2_with fail
  refine HS.out.mono ?_
  rintro e w' ⟨A,n,T,rfl,hb⟩
  have HB:=hid hb
  clear hb
  go_wp2_with fail
  go_ret
  exact⟨rfl,HB.out⟩
theorem gap1 (op:Int)(b:Bool)(w:World)(h:6<=op/\op<=10)(hs:Calls Tryz.prog 30 #[.int .i64 op] w fun e w'=>∃A n T,e= .returned (.tuple #[.slice A n n,.int .u8 T,.bool b])/\Below w.heap.size w w'):Calls Tryz.prog 63 #[.int .i64 op] w fun e w'=>e= .returned (.int .i64 (bif b then 1 else 0))/\Below w.heap.size w w':=by
 have HS:=hid hs
 have q12:(op == 12)=false:=by simp;omega
 have q13:(op == 13)=false:=by simp;omega
 have q16:(op == 16)=false:=by simp;omega
 have q14:(op == 14)=false:=by simp;omega
 have q17:(op == 17)=false:=by simp;omega
 have q40:(op == 40)=false:=by simp;omega
 have q41:(op == 41)=false:=by simp;omega
 have q63:(op == 63)=false:=by simp;omega
 have q64:(op == 64)=false:=by simp;omega
 have q65:(op == 65)=false:=by simp;omega
 have q66:(op == 66)=false:=by simp;omega
 have q0:(op == 0)=false:=by simp;omega
 have q1:(op == 1)=false:=by simp;omega
 have q5:(op == 5)=false:=by simp;omega
 have q11:(op == 11)=false:=by simp;omega
 have q15:(op == 15)=false:=by simp;omega
 have q26:(op == 26)=false:=by simp;omega
 have q27:(op == 27)=false:=by simp;omega
 have l2:decide (2<=op)=true:=by simp;omega
 have l32:decide (32<=op)=false:=by simp;omega
 have l44:decide (44<=op)=false:=by simp;omega
 have l58:decide (58<=op)=false:=by simp;omega
 have u4:decide (op<=4)=false:=by simp;omega
 have u36:decide (op<=36)=true:=by simp;omega
 have u55:decide (op<=55)=true:=by simp;omega
 have u62:decide (op<=62)=true:=by simp;omega
 clear h hs
 cases b with
 | true=>
  go_enter Tryz.func63,Tryz.ntmps63
  go_wp2_with fail
  refine HS.out.mono ?_
  rintro e w' ⟨A,n,T,rfl,hb⟩
  have HB:=hid hb
  clear hb
  go_wp2_with fail
  go_ret
  exact⟨rfl,HB.out⟩
 | false=>
  go_enter Tryz.func63,Tryz.ntmps63
  go_wp2_with fail
  refine HS.out.mono ?_
  rintro e w' ⟨A,n,T,rfl,hb⟩
  have HB:=hid hb
  clear hb
  go_wp2_with fail
  go_ret
  exact⟨rfl,HB.out⟩
theorem gap2 (op:Int)(b:Bool)(w:World)(h:18<=op/\op<=25)(hs:Calls Tryz.prog 30 #[.int .i64 op] w fun e w'=>∃A n T,e= .returned (.tuple #[.slice A n n,.int .u8 T,.bool b])/\Below w.heap.size w w'):Calls Tryz.prog 63 #[.int .i64 op] w fun e w'=>e= .returned (.int .i64 (bif b then 1 else 0))/\Below w.heap.size w w':=by
 have HS:=hid hs
 have q12:(op == 12)=false:=by simp;omega
 have q13:(op == 13)=false:=by simp;omega
 have q16:(op == 16)=false:=by simp;omega
 have q14:(op == 14)=false:=by simp;omega
 have q17:(op == 17)=false:=by simp;omega
 have q40:(op == 40)=false:=by simp;omega
 have q41:(op == 41)=false:=by simp;omega
 have q63:(op == 63)=false:=by simp;omega
 have q64:(op == 64)=false:=by simp;omega
 have q65:(op == 65)=false:=by simp;omega
 have q66:(op == 66)=false:=by simp;omega
 have q0:(op == 0)=false:=by simp;omega
 have q1:(op == 1)=false:=by simp;omega
 have q5:(op == 5)=false:=by simp;omega
 have q11:(op == 11)=false:=by simp;omega
 have q15:(op == 15)=false:=by simp;omega
 have q26:(op == 26)=false:=by simp;omega
 have q27:(op == 27)=false:=by simp;omega
 have l2:decide (2<=op)=true:=by simp;omega
 have l32:decide (32<=op)=false:=by simp;omega
 have l44:decide (44<=op)=false:=by simp;omega
 have l58:decide (58<=op)=false:=by simp;omega
 have u4:decide (op<=4)=false:=by simp;omega
 have u36:decide (op<=36)=true:=by simp;omega
 have u55:decide (op<=55)=true:=by simp;omega
 have u62:decide (op<=62)=true:=by simp;omega
 clear h hs
 cases b with
 | true=>
  go_enter Tryz.func63,Tryz.ntmps63
  go_wp2_with fail
  refine HS.out.mono ?_
  rintro e w' ⟨A,n,T,rfl,hb⟩
  have HB:=hid hb
  clear hb
  go_wp2_with fail
  go_ret
  exact⟨rfl,HB.out⟩
 | false=>
  go_enter Tryz.func63,Tryz.ntmps63
  go_wp2_with fail
  refine HS.out.mono ?_
  rintro e w' ⟨A,n,T,rfl,hb⟩
  have HB:=hid hb
  clear hb
  go_wp2_with fail
  go_ret
  exact⟨rfl,HB.out⟩
theorem gap3 (op:Int)(b:Bool)(w:World)(h:28<=op/\op<=31)(hs:Calls Tryz.prog 30 #[.int .i64 op] w fun e w'=>∃A n T,e= .returned (.tuple #[.slice A n n,.int .u8 T,.bool b])/\Below w.heap.size w w'):Calls Tryz.prog 63 #[.int .i64 op] w fun e w'=>e= .returned (.int .i64 (bif b then 1 else 0))/\Below w.heap.size w w':=by
 have HS:=hid hs
 have q12:(op == 12)=false:=by simp;omega
 have q13:(op == 13)=false:=by simp;omega
 have q16:(op == 16)=false:=by simp;omega
 have q14:(op == 14)=false:=by simp;omega
 have q17:(op == 17)=false:=by simp;omega
 have q40:(op == 40)=false:=by simp;omega
 have q41:(op == 41)=false:=by simp;omega
 have q63:(op == 63)=false:=by simp;omega
 have q64:(op == 64)=false:=by simp;omega
 have q65:(op == 65)=false:=by simp;omega
 have q66:(op == 66)=false:=by simp;omega
 have q0:(op == 0)=false:=by simp;omega
 have q1:(op == 1)=false:=by simp;omega
 have q5:(op == 5)=false:=by simp;omega
 have q11:(op == 11)=false:=by simp;omega
 have q15:(op == 15)=false:=by simp;omega
 have q26:(op == 26)=false:=by simp;omega
 have q27:(op == 27)=false:=by simp;omega
 have l2:decide (2<=op)=true:=by simp;omega
 have l32:decide (32<=op)=false:=by simp;omega
 have l44:decide (44<=op)=false:=by simp;omega
 have l58:decide (58<=op)=false:=by simp;omega
 have u4:decide (op<=4)=false:=by simp;omega
 have u36:decide (op<=36)=true:=by simp;omega
 have u55:decide (op<=55)=true:=by simp;omega
 have u62:decide (op<=62)=true:=by simp;omega
 clear h hs
 cases b with
 | true=>
  go_enter Tryz.func63,Tryz.ntmps63
  go_wp2_with fail
  refine HS.out.mono ?_
  rintro e w' ⟨A,n,T,rfl,hb⟩
  have HB:=hid hb
  clear hb
  go_wp2_with fail
  go_ret
  exact⟨rfl,HB.out⟩
 | false=>
  go_enter Tryz.func63,Tryz.ntmps63
  go_wp2_with fail
  refine HS.out.mono ?_
  rintro e w' ⟨A,n,T,rfl,hb⟩
  have HB:=hid hb
  clear hb
  go_wp2_with fail
  go_ret
  exact⟨rfl,HB.out⟩
theorem gap4 (op:Int)(b:Bool)(w:World)(h:37<=op/\op<=39)(hs:Calls Tryz.prog 30 #[.int .i64 op] w fun e w'=>∃A n T,e= .returned (.tuple #[.slice A n n,.int .u8 T,.bool b])/\Below w.heap.size w w'):Calls Tryz.prog 63 #[.int .i64 op] w fun e w'=>e= .returned (.int .i64 (bif b then 1 else 0))/\Below w.heap.size w w':=by
 have HS:=hid hs
 have q12:(op == 12)=false:=by simp;omega
 have q13:(op == 13)=false:=by simp;omega
 have q16:(op == 16)=false:=by simp;omega
 have q14:(op == 14)=false:=by simp;omega
 have q17:(op == 17)=false:=by simp;omega
 have q40:(op == 40)=false:=by simp;omega
 have q41:(op == 41)=false:=by simp;omega
 have q63:(op == 63)=false:=by simp;omega
 have q64:(op == 64)=false:=by simp;omega
 have q65:(op == 65)=false:=by simp;omega
 have q66:(op == 66)=false:=by simp;omega
 have q0:(op == 0)=false:=by simp;omega
 have q1:(op == 1)=false:=by simp;omega
 have q5:(op == 5)=false:=by simp;omega
 have q11:(op == 11)=false:=by simp;omega
 have q15:(op == 15)=false:=by simp;omega
 have q26:(op == 26)=false:=by simp;omega
 have q27:(op == 27)=false:=by simp;omega
 have l2:decide (2<=op)=true:=by simp;omega
 have l32:decide (32<=op)=true:=by simp;omega
 have l44:decide (44<=op)=false:=by simp;omega
 have l58:decide (58<=op)=false:=by simp;omega
 have u4:decide (op<=4)=false:=by simp;omega
 have u36:decide (op<=36)=false:=by simp;omega
 have u55:decide (op<=55)=true:=by simp;omega
 have u62:decide (op<=62)=true:=by simp;omega
 clear h hs
 cases b with
 | true=>
  go_enter Tryz.func63,Tryz.ntmps63
  go_wp2_with fail
  refine HS.out.mono ?_
  rintro e w' ⟨A,n,T,rfl,hb⟩
  have HB:=hid hb
  clear hb
  go_wp2_with fail
  go_ret
  exact⟨rfl,HB.out⟩
 | false=>
  go_enter Tryz.func63,Tryz.ntmps63
  go_wp2_with fail
  refine HS.out.mono ?_
  rintro e w' ⟨A,n,T,rfl,hb⟩
  have HB:=hid hb
  clear hb
  go_wp2_with fail
  go_ret
  exact⟨rfl,HB.out⟩
theorem gap5 (op:Int)(b:Bool)(w:World)(h:42<=op/\op<=43)(hs:Calls Tryz.prog 30 #[.int .i64 op] w fun e w'=>∃A n T,e= .returned (.tuple #[.slice A n n,.int .u8 T,.bool b])/\Below w.heap.size w w'):Calls Tryz.prog 63 #[.int .i64 op] w fun e w'=>e= .returned (.int .i64 (bif b then 1 else 0))/\Below w.heap.size w w':=by
 have HS:=hid hs
 have q12:(op == 12)=false:=by simp;omega
 have q13:(op == 13)=false:=by simp;omega
 have q16:(op == 16)=false:=by simp;omega
 have q14:(op == 14)=false:=by simp;omega
 have q17:(op == 17)=false:=by simp;omega
 have q40:(op == 40)=false:=by simp;omega
 have q41:(op == 41)=false:=by simp;omega
 have q63:(op == 63)=false:=by simp;omega
 have q64:(op == 64)=false:=by simp;omega
 have q65:(op == 65)=false:=by simp;omega
 have q66:(op == 66)=false:=by simp;omega
 have q0:(op == 0)=false:=by simp;omega
 have q1:(op == 1)=false:=by simp;omega
 have q5:(op == 5)=false:=by simp;omega
 have q11:(op == 11)=false:=by simp;omega
 have q15:(op == 15)=false:=by simp;omega
 have q26:(op == 26)=false:=by simp;omega
 have q27:(op == 27)=false:=by simp;omega
 have l2:decide (2<=op)=true:=by simp;omega
 have l32:decide (32<=op)=true:=by simp;omega
 have l44:decide (44<=op)=false:=by simp;omega
 have l58:decide (58<=op)=false:=by simp;omega
 have u4:decide (op<=4)=false:=by simp;omega
 have u36:decide (op<=36)=false:=by simp;omega
 have u55:decide (op<=55)=true:=by simp;omega
 have u62:decide (op<=62)=true:=by simp;omega
 clear h hs
 cases b with
 | true=>
  go_enter Tryz.func63,Tryz.ntmps63
  go_wp2_with fail
  refine HS.out.mono ?_
  rintro e w' ⟨A,n,T,rfl,hb⟩
  have HB:=hid hb
  clear hb
  go_wp2_with fail
  go_ret
  exact⟨rfl,HB.out⟩
 | false=>
  go_enter Tryz.func63,Tryz.ntmps63
  go_wp2_with fail
  refine HS.out.mono ?_
  rintro e w' ⟨A,n,T,rfl,hb⟩
  have HB:=hid hb
  clear hb
  go_wp2_with fail
  go_ret
  exact⟨rfl,HB.out⟩
theorem gap6 (op:Int)(b:Bool)(w:World)(h:56<=op/\op<=57)(hs:Calls Tryz.prog 30 #[.int .i64 op] w fun e w'=>∃A n T,e= .returned (.tuple #[.slice A n n,.int .u8 T,.bool b])/\Below w.heap.size w w'):Calls Tryz.prog 63 #[.int .i64 op] w fun e w'=>e= .returned (.int .i64 (bif b then 1 else 0))/\Below w.heap.size w w':=by
 have HS:=hid hs
 have q12:(op == 12)=false:=by simp;omega
 have q13:(op == 13)=false:=by simp;omega
 have q16:(op == 16)=false:=by simp;omega
 have q14:(op == 14)=false:=by simp;omega
 have q17:(op == 17)=false:=by simp;omega
 have q40:(op == 40)=false:=by simp;omega
 have q41:(op == 41)=false:=by simp;omega
 have q63:(op == 63)=false:=by simp;omega
 have q64:(op == 64)=false:=by simp;omega
 have q65:(op == 65)=false:=by simp;omega
 have q66:(op == 66)=false:=by simp;omega
 have q0:(op == 0)=false:=by simp;omega
 have q1:(op == 1)=false:=by simp;omega
 have q5:(op == 5)=false:=by simp;omega
 have q11:(op == 11)=false:=by simp;omega
 have q15:(op == 15)=false:=by simp;omega
 have q26:(op == 26)=false:=by simp;omega
 have q27:(op == 27)=false:=by simp;omega
 have l2:decide (2<=op)=true:=by simp;omega
 have l32:decide (32<=op)=true:=by simp;omega
 have l44:decide (44<=op)=true:=by simp;omega
 have l58:decide (58<=op)=false:=by simp;omega
 have u4:decide (op<=4)=false:=by simp;omega
 have u36:decide (op<=36)=false:=by simp;omega
 have u55:decide (op<=55)=false:=by simp;omega
 have u62:decide (op<=62)=true:=by simp;omega
 clear h hs
 cases b with
 | true=>
  go_enter Tryz.func63,Tryz.ntmps63
  go_wp2_with fail
  refine HS.out.mono ?_
  rintro e w' ⟨A,n,T,rfl,hb⟩
  have HB:=hid hb
  clear hb
  go_wp2_with fail
  go_ret
  exact⟨rfl,HB.out⟩
 | false=>
  go_enter Tryz.func63,Tryz.ntmps63
  go_wp2_with fail
  refine HS.out.mono ?_
  rintro e w' ⟨A,n,T,rfl,hb⟩
  have HB:=hid hb
  clear hb
  go_wp2_with fail
  go_ret
  exact⟨rfl,HB.out⟩
theorem gap7 (op:Int)(b:Bool)(w:World)(h:67<=op)(hs:Calls Tryz.prog 30 #[.int .i64 op] w fun e w'=>∃A n T,e= .returned (.tuple #[.slice A n n,.int .u8 T,.bool b])/\Below w.heap.size w w'):Calls Tryz.prog 63 #[.int .i64 op] w fun e w'=>e= .returned (.int .i64 (bif b then 1 else 0))/\Below w.heap.size w w':=by
 have HS:=hid hs
 have q12:(op == 12)=false:=by simp;omega
 have q13:(op == 13)=false:=by simp;omega
 have q16:(op == 16)=false:=by simp;omega
 have q14:(op == 14)=false:=by simp;omega
 have q17:(op == 17)=false:=by simp;omega
 have q40:(op == 40)=false:=by simp;omega
 have q41:(op == 41)=false:=by simp;omega
 have q63:(op == 63)=false:=by simp;omega
 have q64:(op == 64)=false:=by simp;omega
 have q65:(op == 65)=false:=by simp;omega
 have q66:(op == 66)=false:=by simp;omega
 have q0:(op == 0)=false:=by simp;omega
 have q1:(op == 1)=false:=by simp;omega
 have q5:(op == 5)=false:=by simp;omega
 have q11:(op == 11)=false:=by simp;omega
 have q15:(op == 15)=false:=by simp;omega
 have q26:(op == 26)=false:=by simp;omega
 have q27:(op == 27)=false:=by simp;omega
 have l2:decide (2<=op)=true:=by simp;omega
 have l32:decide (32<=op)=true:=by simp;omega
 have l44:decide (44<=op)=true:=by simp;omega
 have l58:decide (58<=op)=true:=by simp;omega
 have u4:decide (op<=4)=false:=by simp;omega
 have u36:decide (op<=36)=false:=by simp;omega
 have u55:decide (op<=55)=false:=by simp;omega
 have u62:decide (op<=62)=false:=by simp;omega
 clear h hs
 cases b with
 | true=>
  go_enter Tryz.func63,Tryz.ntmps63
  go_wp2_with fail
  refine HS.out.mono ?_
  rintro e w' ⟨A,n,T,rfl,hb⟩
  have HB:=hid hb
  clear hb
  go_wp2_with fail
  go_ret
  exact⟨rfl,HB.out⟩
 | false=>
  go_enter Tryz.func63,Tryz.ntmps63
  go_wp2_with fail
  refine HS.out.mono ?_
  rintro e w' ⟨A,n,T,rfl,hb⟩
  have HB:=hid hb
  clear hb
  go_wp2_with fail
  go_ret
  exact⟨rfl,HB.out⟩
theorem kind_gap (op:Int)(w:World)(h:op<0\/(5<op/\op<11)\/(17<op/\op<26)\/(27<op/\op<32)\/(36<op/\op<40)\/op=42\/op=43\/op=56\/op=57\/66<op):Calls Tryz.prog 63 #[.int .i64 op] w (KdTold op w):=by
 have HS:=rshape_is op w
 have hk:kd op=bif opB op then 1 else 0:=by
  unfold kd opB
  iterate 9 (rw[if_neg (by omega)])
  by_cases g:(69<=op/\op<=90)\/(103<=op/\op<=138)\/op=167\/op=172\/op=173
  ·rw[if_pos g,decide_eq_true g];rfl
  ·rw[if_neg g,decide_eq_false g];rfl
 unfold KdTold
 rw[hk]
 by_cases g0:op<=-1
 ·exact gap0 op _ w g0 HS
 by_cases g1:6<=op/\op<=10
 ·exact gap1 op _ w g1 HS
 by_cases g2:18<=op/\op<=25
 ·exact gap2 op _ w g2 HS
 by_cases g3:28<=op/\op<=31
 ·exact gap3 op _ w g3 HS
 by_cases g4:37<=op/\op<=39
 ·exact gap4 op _ w g4 HS
 by_cases g5:42<=op/\op<=43
 ·exact gap5 op _ w g5 HS
 by_cases g6:56<=op/\op<=57
 ·exact gap6 op _ w g6 HS
 exact gap7 op _ w (by omega) HS
theorem kind_code (op:Int)(w:World)(h:(0<=op/\op<=5)\/(11<=op/\op<=17)\/op=26\/op=27\/(32<=op/\op<=36)\/op=40\/op=41\/(44<=op/\op<=55)\/(58<=op/\op<=66)):Calls Tryz.prog 63 #[.int .i64 op] w (KdTold op w):=by
 have e:op=0\/op=1\/op=2\/op=3\/op=4\/op=5\/op=11\/op=12\/op=13\/op=14\/op=15\/op=16\/op=17\/op=26\/op=27\/op=32\/op=33\/op=34\/op=35\/op=36\/op=40\/op=41\/op=44\/op=45\/op=46\/op=47\/op=48\/op=49\/op=50\/op=51\/op=52\/op=53\/op=54\/op=55\/op=58\/op=59\/op=60\/op=61\/op=62\/op=63\/op=64\/op=65\/op=66:=by omega
 clear h
 rcases e with rfl | rfl | rfl | rfl | rfl | rfl | rfl | rfl | rfl | rfl | rfl | rfl | rfl | rfl | rfl | rfl | rfl | rfl | rfl | rfl | rfl | rfl | rfl | rfl | rfl | rfl | rfl | rfl | rfl | rfl | rfl | rfl | rfl | rfl | rfl | rfl | rfl | rfl | rfl | rfl | rfl | rfl | rfl
 all_goals
  go_enter Tryz.func63,Tryz.ntmps63
  go_wp2
  go_ret
  exact⟨rfl,Below.refl _ _⟩
theorem rkind_any (op:Int)(w:World):Calls Tryz.prog 63 #[.int .i64 op] w (KdTold op w):=by
 by_cases h:op<0\/(5<op/\op<11)\/(17<op/\op<26)\/(27<op/\op<32)\/(36<op/\op<40)\/op=42\/op=43\/op=56\/op=57\/66<op
 ·exact kind_gap op w h
 ·exact kind_code op w (by omega)
def ax (op:Int):Int×Int×Bool×Bool:=
 if op=40 then (127,4,false,false) else if op=41 then (126,8,false,false) else if op=44 then (127,1,true,false) else if op=45 then (127,1,false,false)
 else if op=46 then (127,2,true,false) else if op=47 then (127,2,false,false) else if op=48 then (126,1,true,false) else if op=49 then (126,1,false,false)
 else if op=50 then (126,2,true,false) else if op=51 then (126,2,false,false) else if op=52 then (126,4,true,false) else if op=53 then (126,4,false,false)
 else if op=54 then (127,4,false,true) else if op=55 then (126,8,false,true) else if op=58 then (127,1,false,true) else if op=59 then (127,2,false,true)
 else if op=60 then (126,1,false,true) else if op=61 then (126,2,false,true) else if op=62 then (126,4,false,true) else (0,0,false,false)
theorem ax_none {op:Int}(h:kd op≠6):ax op=(0,0,false,false):=by
 have h2:¬ (op=40\/op=41\/(44<=op/\op<=55)\/(58<=op/\op<=62)):=by
  intro g
  apply h
  unfold kd
  rw[if_neg (by omega),if_neg (by omega),if_neg (by omega),if_neg (by omega),if_pos g]
 unfold ax
 iterate 19 (rw[if_neg (by omega)])
def AxTold (x:Int×Int×Bool×Bool)(w:World)(e:Ending)(w':World):Prop:=e= .returned (.tuple #[.int .u8 x.1,.int .i64 x.2.1,.bool x.2.2.1,.bool x.2.2.2])/\w=w'
theorem raccess_any (op:Int)(w:World):Calls Tryz.prog 73 #[.int .i64 op] w (AxTold (ax op) w):=by
 by_cases h:op=40\/op=41\/(44<=op/\op<=55)\/(58<=op/\op<=62)
 ·have e:op=40\/op=41\/op=44\/op=45\/op=46\/op=47\/op=48\/op=49\/op=50\/op=51\/op=52\/op=53\/op=54\/op=55\/op=58\/op=59\/op=60\/op=61\/op=62:=by omega
  clear h
  rcases e with rfl | rfl | rfl | rfl | rfl | rfl | rfl | rfl | rfl | rfl | rfl | rfl | rfl | rfl | rfl | rfl | rfl | rfl | rfl
  all_goals
   go_enter Tryz.func73,Tryz.ntmps73
   go_wp2
   refine bodyPost_ret (by simp[results,Tryz.results73,go_sem,ax]) rfl ⟨rfl,rfl⟩
 ·have hx:ax op=(0,0,false,false):=by
   unfold ax
   iterate 19 (rw[if_neg (by omega)])
  rw[hx]
  clear hx
  have q40:(op == 40)=false:=by simp;omega
  have q41:(op == 41)=false:=by simp;omega
  have q44:(op == 44)=false:=by simp;omega
  have q45:(op == 45)=false:=by simp;omega
  have q46:(op == 46)=false:=by simp;omega
  have q47:(op == 47)=false:=by simp;omega
  have q48:(op == 48)=false:=by simp;omega
  have q49:(op == 49)=false:=by simp;omega
  have q50:(op == 50)=false:=by simp;omega
  have q51:(op == 51)=false:=by simp;omega
  have q52:(op == 52)=false:=by simp;omega
  have q53:(op == 53)=false:=by simp;omega
  have q54:(op == 54)=false:=by simp;omega
  have q55:(op == 55)=false:=by simp;omega
  have q58:(op == 58)=false:=by simp;omega
  have q59:(op == 59)=false:=by simp;omega
  have q60:(op == 60)=false:=by simp;omega
  have q61:(op == 61)=false:=by simp;omega
  have q62:(op == 62)=false:=by simp;omega
  clear h
  go_enter Tryz.func73,Tryz.ntmps73
  go_wp2
  refine bodyPost_ret (v:=.tuple #[.int .u8 0,.int .i64 0,.bool false,.bool false]) (by simp[results,Tryz.results73,go_sem]) rfl ⟨rfl,rfl⟩
structure But (g:Nat) (w w':World):Prop where
 os:w'.os=w.os
 tape:w'.tape=w.tape
 output:w'.output=w.output
 size:w.heap.size<=w'.heap.size
 block:∀k,k<w.heap.size->k≠g->w'.heap[k]? = w.heap[k]?
theorem But.of_below {g:Nat}{w w':World}(h:Below w.heap.size w w'):But g w w':=⟨h.os,h.tape,h.output,h.size,fun k hk _=>h.block k hk⟩
theorem But.cell {g:Nat}{w w':World}(h:But g w w'){p:Addr}(hp:p.block<w.heap.size)(hn:p.block≠g):w'.cell? p=w.cell? p:=World.cell?_of_block (w:=w) (h.block p.block hp hn)
theorem But.frozen {g:Nat}{w w':World}(h:But g w w'){p:Addr}(hp:p.block<w.heap.size)(hn:p.block≠g):w'.frozen? p=w.frozen? p:=World.frozen?_of_block (w:=w) (h.block p.block hp hn)
structure InAt (w:World) (h:Nat) (op A B K:Int) (o:Value):Prop where
 lt:h<w.heap.size
 c0:w.cell? ⟨h,0,none⟩=some (.int .i64 op)
 c1:w.cell? ⟨h,1,none⟩=some (.int .i64 A)
 c2:w.cell? ⟨h,2,none⟩=some (.int .i64 B)
 c3:w.cell? ⟨h,3,none⟩=some (.int .u64 K)
 c4:w.cell? ⟨h,4,none⟩=some o
 f0:w.frozen? ⟨h,0,none⟩=false
 f1:w.frozen? ⟨h,1,none⟩=false
 f2:w.frozen? ⟨h,2,none⟩=false
 f3:w.frozen? ⟨h,3,none⟩=false
 f4:w.frozen? ⟨h,4,none⟩=false
theorem InAt.but {w w':World}{g h:Nat}{op A B K:Int}{o:Value}(x:InAt w h op A B K o)(hb:But g w w')(hn:h≠g):InAt w' h op A B K o:=by
 obtain⟨h0,c0,c1,c2,c3,c4,f0,f1,f2,f3,f4⟩:=x
 have key:∀i,w'.cell? ⟨h,i,none⟩=w.cell? ⟨h,i,none⟩:=fun i=>hb.cell (p:=⟨h,i,none⟩) h0 hn
 have fey:∀i,w'.frozen? ⟨h,i,none⟩=w.frozen? ⟨h,i,none⟩:=fun i=>hb.frozen (p:=⟨h,i,none⟩) h0 hn
 exact⟨Nat.lt_of_lt_of_le h0 hb.size,by rw[key];exact c0,by rw[key];exact c1,by rw[key];exact c2,by rw[key];exact c3,by rw[key];exact c4,by rw[fey];exact f0,by rw[fey];exact f1,by rw[fey];exact f2,by rw[fey];exact f3,by rw[fey];exact f4⟩
theorem InAt.keep {w w':World}{h:Nat}{op A B K:Int}{o:Value}(x:InAt w h op A B K o)(hb:Below w.heap.size w w'):InAt w' h op A B K o:=x.but (But.of_below (g:=h+1) hb) (by omega)
theorem InAt.at_ (w:World)(h:Nat)(op A B K:Int)(o:Value)(t:TypeId)(hh:h=w.heap.size):InAt (w.alloc (.cells #[.int .i64 op,.int .i64 A,.int .i64 B,.int .u64 K,o] t)) h op A B K o:=by
 subst hh
 exact⟨by simp,by simp,by simp,by simp,by simp,by simp,by simp,by simp,by simp,by simp,by simp⟩
def vi (l:List Int):List Value:=l.map (Value.int .i64)
def OwnI (w:World)(B:Nat)(v:Value)(l:List Int):Prop:=w.ownsRow B 3 1 v l.length (vi l)
theorem ownI_nil (w:World)(B:Nat):OwnI w B (.slice none 0 0) []:=⟨rfl,.inl ⟨rfl,rfl⟩⟩
theorem OwnI.form {w:World}{B:Nat}{v:Value}{l:List Int}(h:OwnI w B v l):∃P c,v= .slice P l.length c:=by
 rcases h.2 with ⟨e,hn⟩ | ⟨p,c,_,e,_⟩
 ·exact ⟨none,0,by rw[e,hn]⟩
 ·exact ⟨_,c,e⟩
theorem drewB (w:World):Below w.heap.size w w.drew:=⟨rfl,rfl,rfl,Nat.le_refl _,fun _ _=>rfl⟩
theorem int_info:(Tryz.prog.info? 3).map (fun i=>(i.zero,i.size,i.bytes))=some (some (.int .i64 0),1,8):=by kernel_rfl
structure Ins where
 op:Int
 A:Int
 B:Int
 K:Int
 L:List Int
def SlI (w:World)(v:Value)(l:List Int):Prop:=
 ∃A c,v= .slice A l.length c/\l.length<=c/\c<=9223372036854775807/\(l≠[]->∃g off,A=some ⟨g,off,none⟩/\g<w.heap.size/\∀j,j<l.length->w.cell? ⟨g,off+j,none⟩=some (.int .i64 (l.getD j 0)))
theorem SlI.keep {w w':World}{v:Value}{l:List Int}(h:SlI w v l)(hb:Below w.heap.size w w'):SlI w' v l:=by
 obtain⟨A,c,h1,h2,h3,h4⟩:=h
 refine⟨A,c,h1,h2,h3,fun h0=>?_⟩
 obtain⟨g,off,e,hg,hB⟩:=h4 h0
 exact⟨g,off,e,Nat.lt_of_lt_of_le hg hb.size,fun j hj=>by rw[hb.cell (p:=⟨g,off+j,none⟩) hg];exact hB j hj⟩
theorem SlI.len_le {w:World}{v:Value}{l:List Int}(h:SlI w v l):l.length<=9223372036854775807:=by
 obtain⟨_,_,_,h2,h3,_⟩:=h
 omega
theorem SlI.nil (w:World):SlI w (.slice none 0 0) []:=⟨none,0,rfl,Nat.le_refl _,by omega,fun h=>absurd rfl h⟩
theorem SlI.at_ {w:World}{A:Option Addr}{n c:Nat}{l:List Int}(h:SlI w (.slice A n c) l){j:Nat}(hj:j<l.length):∃g off,A=some ⟨g,off,none⟩/\w.cell? ⟨g,off+j,none⟩=some (.int .i64 (l.getD j 0)):=by
 obtain⟨A',c',h1,h2,h3,h4⟩:=h
 cases h1
 obtain⟨g,off,e,_,hB⟩:=h4 (fun h0=>by rw[h0] at hj;exact absurd hj (Nat.not_lt_zero _))
 exact⟨g,off,e,hB j hj⟩
def iv (x:Ins)(o:Value):Value:=.agg #[.int .i64 x.op,.int .i64 x.A,.int .i64 x.B,.int .u64 x.K,o]
def smI (x y:Ins):Bool:=decide (x.op=y.op/\x.A=y.A/\x.B=y.B/\x.K=y.K/\x.L=y.L)
theorem drewNB (w:World)(n:Nat){B:Nat}(_:B<=w.heap.size):Below B w (w.drewN n):=⟨rfl,rfl,rfl,Nat.le_refl _,fun _ _=>rfl⟩
theorem take_eq {a b:List Int}{k:Nat}(h:a.take k=b.take k)(ha:k<a.length)(hb:k<b.length)(hq:(a.getD k 0 != b.getD k 0)=false):a.take (k+1)=b.take (k+1):=by
 rw[List.take_add_one,List.take_add_one,h]
 congr 1
 rw[List.getElem?_eq_getElem ha,List.getElem?_eq_getElem hb]
 have:a.getD k 0=b.getD k 0:=by simpa using hq
 rw[List.getD_eq_getElem?_getD,List.getD_eq_getElem?_getD,List.getElem?_eq_getElem ha,List.getElem?_eq_getElem hb] at this
 simpa using this
theorem of_take_ne {a b:List Int}{k:Nat}(hq:(a.getD k 0 != b.getD k 0)=true):¬ a=b:=by
 rintro rfl
 simp at hq
def KTab (w:World):Prop:=0<w.heap.size/\∀r:Nat,r<174->w.cell? ⟨0,r,none⟩=some (.int .u8 (kd (r:Int)))
theorem KTab.keep {w w':World}(h:KTab w)(hb:Below w.heap.size w w'):KTab w':=
 ⟨Nat.lt_of_lt_of_le h.1 hb.size,fun r hr=>by rw[hb.cell (p:=⟨0,r,none⟩) h.1];exact h.2 r hr⟩
theorem kind_low (op:Int)(w:World)(h:op<0):Calls Tryz.prog 61 #[.int .i64 op] w fun e w'=>e= .returned (.int .i64 0)/\w=w':=by
 have t1:decide (op<0)=true:=by simp;omega
 clear h
 go_enter Tryz.func61,Tryz.ntmps61
 go_wp2_with fail
 go_ret
 exact⟨rfl,rfl⟩
theorem kind_high (op:Int)(w:World)(h:173<op):Calls Tryz.prog 61 #[.int .i64 op] w fun e w'=>e= .returned (.int .i64 0)/\w=w':=by
 have t1:decide (op<0)=false:=by simp;omega
 have t2:decide (174<=op)=true:=by simp;omega
 clear h
 go_enter Tryz.func61,Tryz.ntmps61
 go_wp2_with fail
 go_ret
 exact⟨rfl,rfl⟩
theorem kind_in (r:Nat)(k:Int)(w:World)(h:r<174)(k0:0<=k)(k1:k<=9)(hc:w.cell? ⟨0,r,none⟩=some (.int .u8 k)):Calls Tryz.prog 61 #[.int .i64 (r:Int)] w fun e w'=>e= .returned (.int .i64 k)/\w=w':=by
 have t1:decide ((r:Int)<0)=false:=by simp
 have t2:decide (174<=(r:Int))=false:=by simp;omega
 have t3:IntKind.i64.wrap k=k:=IntWalk.i64_in _ (by omega)
 go_enter Tryz.func61,Tryz.ntmps61
 go_wp2_with fail
 go_ret
 exact⟨rfl,rfl⟩
theorem kind_any (op:Int)(w:World)(hT:KTab w):Calls Tryz.prog 61 #[.int .i64 op] w fun e w'=>e= .returned (.int .i64 (kd op))/\w=w':=by
 by_cases h0:op<0
 ·rw[kd_low h0];exact kind_low op w h0
 ·by_cases h1:173<op
  ·rw[kd_high h1];exact kind_high op w h1
  ·obtain ⟨r,rfl⟩:=Int.eq_ofNat_of_zero_le (show 0<=op by omega)
   exact kind_in r _ w (by omega) (kd_range _).1 (kd_range _).2 (hT.2 r (by omega))
theorem kind_told (op:Int)(w:World)(hT:KTab w):Calls Tryz.prog 61 #[.int .i64 op] w (KdTold op w):=(kind_any op w hT).mono fun _e _w' ⟨h1,h2⟩=>⟨h1,h2 ▸ Below.refl _ _⟩
def ATab (w:World):Prop:=1<w.heap.size/\∀r:Nat,r<23->
 w.cell? ⟨1,r*4,none⟩=some (.int .u8 (ax ((r:Int)+40)).1)/\w.cell? ⟨1,r*4+1,none⟩=some (.int .i64 (ax ((r:Int)+40)).2.1)/\
 w.cell? ⟨1,r*4+2,none⟩=some (.bool (ax ((r:Int)+40)).2.2.1)/\w.cell? ⟨1,r*4+3,none⟩=some (.bool (ax ((r:Int)+40)).2.2.2)
theorem ATab.keep {w w':World}(h:ATab w)(hb:Below w.heap.size w w'):ATab w':=
 ⟨Nat.lt_of_lt_of_le h.1 hb.size,fun r hr=>by
  have key:∀i,w'.cell? ⟨1,i,none⟩=w.cell? ⟨1,i,none⟩:=fun i=>hb.cell (p:=⟨1,i,none⟩) h.1
  rw[key,key,key,key];exact h.2 r hr⟩
theorem access_low (op:Int)(w:World)(h:op<40):Calls Tryz.prog 134 #[.int .i64 op] w fun e w'=>e= .returned (.tuple #[.int .u8 0,.int .i64 0,.bool false,.bool false])/\Below w.heap.size w w':=by
 have t1:decide (op<40)=true:=by simp;omega
 clear h
 go_enter Tryz.func134,Tryz.ntmps134
 go_wp2_with fail
 refine bodyPost_ret (v:=.tuple #[.int .u8 0,.int .i64 0,.bool false,.bool false]) (by simp[results,Tryz.results134,go_sem]) rfl ⟨rfl,Below.refl _ _⟩
theorem access_high (op:Int)(w:World)(h:62<op):Calls Tryz.prog 134 #[.int .i64 op] w fun e w'=>e= .returned (.tuple #[.int .u8 0,.int .i64 0,.bool false,.bool false])/\Below w.heap.size w w':=by
 have t1:decide (op<40)=false:=by simp;omega
 have t2:decide (63<=op)=true:=by simp;omega
 clear h
 go_enter Tryz.func134,Tryz.ntmps134
 go_wp2_with fail
 refine bodyPost_ret (v:=.tuple #[.int .u8 0,.int .i64 0,.bool false,.bool false]) (by simp[results,Tryz.results134,go_sem]) rfl ⟨rfl,Below.refl _ _⟩
theorem access_in (r:Nat)(op x y:Int)(b1 b2:Bool)(w:World)(h:r<23)(ho:op=(r:Int)+40)(c0:w.cell? ⟨1,r*4,none⟩=some (.int .u8 x))(c1:w.cell? ⟨1,r*4+1,none⟩=some (.int .i64 y))
  (c2:w.cell? ⟨1,r*4+2,none⟩=some (.bool b1)) (c3:w.cell? ⟨1,r*4+3,none⟩=some (.bool b2)) :
  Calls Tryz.prog 134 #[.int .i64 op] w fun e w'=>e= .returned (.tuple #[.int .u8 x,.int .i64 y,.bool b1,.bool b2])/\Below w.heap.size w w':=by
 have t1:decide (op<40)=false:=by simp;omega
 have t2:decide (63<=op)=false:=by simp;omega
 have t3:IntKind.i64.wrap (op - 40)=(r:Int):=by rw[IntKind.wrap_i64];omega
 clear ho
 go_enter Tryz.func134,Tryz.ntmps134
 go_wp2_with fail
 go_quiet (fail)
 go_wp2_with fail
 refine bodyPost_ret (v:=.tuple #[.int .u8 x,.int .i64 y,.bool b1,.bool b2]) (by simp[results,Tryz.results134,go_sem]) rfl ⟨rfl,?_⟩
 have hA:=(Below.refl w.heap.size w).alloc (Nat.le_refl _) (.cells #[.int .u8 x,.int .i64 y,.bool b1,.bool b2] 199)
 exact⟨hA.os,hA.tape,hA.output,hA.size,hA.block⟩
theorem access_any (op:Int)(w:World)(hT:ATab w):Calls Tryz.prog 134 #[.int .i64 op] w fun e w'=>e= .returned (.tuple #[.int .u8 (ax op).1,.int .i64 (ax op).2.1,.bool (ax op).2.2.1,.bool (ax op).2.2.2])/\Below w.heap.size w w':=by
 by_cases h0:op<40
 ·have hx:ax op=(0,0,false,false):=ax_none (by unfold kd;repeat' (first | (split;omega) | omega))
  rw[hx];exact access_low op w h0
 ·by_cases h1:62<op
  ·have hx:ax op=(0,0,false,false):=ax_none (by unfold kd;repeat' (first | (split;omega) | omega))
   rw[hx];exact access_high op w h1
  ·obtain ⟨r,hr⟩:=Int.eq_ofNat_of_zero_le (show 0<=op - 40 by omega)
   have e:op=(r:Int)+40:=by omega
   subst e
   obtain⟨c0,c1,c2,c3⟩:=hT.2 r (by omega)
   exact access_in r _ _ _ _ _ w (by omega) rfl c0 c1 c2 c3
end Go.Proofs.YtlappkflnlbfcaaGreatDoor.Ins
end
section
namespace Go.Proofs.YtlappkflnlbfcaaGreatDoor.Ins
open Lib (hid)
open Go.RowKit Ints Typ
set_option maxRecDepth 100000
set_option maxHeartbeats 1000000
set_option linter.unusedVariables false
theorem equal_far (P Q:Option Addr)(c d n m:Nat)(w:World)(h:((n:Int) != (m:Int))=true):Calls Tryz.prog 117 #[.slice P n c,.slice Q m d] w fun en w'=>en= .returned (.bool false)/\Below w.heap.size w w':=by
 go_enter Tryz.func117,Tryz.ntmps117
 go_wp2_with fail
 exact bodyPost_ret (v:=.bool false) (by simp[results,Tryz.results117,go_sem]) rfl ⟨rfl,Below.refl _ _⟩
theorem equal_loop (x y:List Int)(P Q:Option Addr)(c d:Nat)(w:World)(n:Nat)(hn1:x.length=n)(hn2:y.length=n)(hx:SlI w (.slice P n c) x)(hy:SlI w (.slice Q n d) y):
  Calls Tryz.prog 117 #[.slice P n c,.slice Q n d] w fun en w'=>en= .returned (.bool (decide (x=y)))/\Below w.heap.size w w':=by
 have N1:=hid hn1
 have N2:=hid hn2
 have HX:=hid hx
 have HY:=hid hy
 clear hn1 hn2 hx hy
 go_enter Tryz.func117,Tryz.ntmps117
 go_wp2_with fail
 go_loopw [13] (fun j' wr=>∃k:Nat,j'= .int .i64 (k:Int)/\k<=n/\x.take k=y.take k/\SlI wr (.slice P n c) x/\SlI wr (.slice Q n d) y/\Below w.heap.size w wr) (fun j' _=>n - (intOf j').toNat)
 case atStart=>exact ⟨0,rfl,Nat.zero_le _,rfl,HX.out,HY.out,Below.refl _ _⟩
 case round=>
  clear HX HY
  obtain⟨k,rfl,hk,ht,hX,hY,hW⟩:=hrel
  have HX:=hid hX
  have HY:=hid hY
  have HW:=hid hW
  have HT:=hid ht
  clear hX hY hW ht
  have hbig:=HX.out.len_le
  rw[N1.out] at hbig
  by_cases hlt:k<n
  ·obtain ⟨g1,p1,rfl,hc1⟩:=HX.out.at_ (j:=k) (by rw[N1.out];exact hlt)
   obtain⟨g2,p2,rfl,hc2⟩:=HY.out.at_ (j:=k) (by rw[N2.out];exact hlt)
   have hin1:(0:Int)<=(k:Int):=by omega
   have hin2:(k:Int)<(n:Int):=by omega
   obtain⟨u,hu⟩:∃u,x.getD k 0=u:=⟨_,rfl⟩
   obtain⟨v,hv⟩:∃v,y.getD k 0=v:=⟨_,rfl⟩
   rw[hu] at hc1
   rw[hv] at hc2
   have HU:=hid hu
   have HV:=hid hv
   clear hu hv
   cases hq:(u != v) with
   | true=>
    have HQ:=hid (of_take_ne (a:=x) (b:=y) (k:=k) (by rw[HU.out,HV.out];exact hq))
    go_wp2_with fail
    go_quiet (fail)
    go_wp2_with fail
    rw[decide_eq_false HQ.out]
    exact bodyPost_ret (v:=.bool false) (by simp[results,Tryz.results117,go_sem]) rfl ⟨rfl,HW.out.trans (drewNB _ _ HW.out.size)⟩
   | false=>
    have HQ:=hid (take_eq HT.out (by rw[N1.out];exact hlt) (by rw[N2.out];exact hlt) (by rw[HU.out,HV.out];exact hq))
    go_wp2_with fail
    go_quiet (fail)
    go_wp2_with fail
    go_roundw
    case rel=>exact ⟨k+1,by go_num,hlt,HQ.out,HX.out.keep (drewNB _ _ (Nat.le_refl _)),HY.out.keep (drewNB _ _ (Nat.le_refl _)),HW.out.trans (drewNB _ _ HW.out.size)⟩
    case measure=>simp[intOf];omega
  ·obtain rfl:k=n:=by omega
   have HQ:Hid (x=y):=by
    have h1:=HT.out
    rw[List.take_of_length_le (by rw[N1.out];exact Nat.le_refl _),List.take_of_length_le (by rw[N2.out];exact Nat.le_refl _)] at h1
    exact h1
   go_wp2_with fail
   rw[decide_eq_true HQ.out]
   exact bodyPost_ret (v:=.bool true) (by simp[results,Tryz.results117,go_sem]) rfl ⟨rfl,HW.out⟩
theorem equal_any {x y:List Int}{o p:Value}{w:World}(hx:SlI w o x)(hy:SlI w p y):Calls Tryz.prog 117 #[o,p] w fun en w'=>en= .returned (.bool (decide (x=y)))/\Below w.heap.size w w':=by
 obtain⟨P,c,ho,_⟩:=id hx
 obtain⟨Q,d,hp,_⟩:=id hy
 subst ho hp
 by_cases hn:x.length=y.length
 ·rw[<- hn] at hy ⊢
  exact equal_loop x y P Q c d w x.length rfl hn.symm hx hy
 ·rw[decide_eq_false (fun h=>hn (by rw[h]))]
  exact equal_far P Q c d _ _ w (by simp;omega)
theorem psame_core (x y:Ins)(P Q:Option Addr)(c d n m:Nat)(w:World)(b1 b2 b3 b4 b5:Bool)(h1:(x.op == y.op)=b1)(h2:(x.A == y.A)=b2)(h3:(x.B == y.B)=b3)(h4:(x.K == y.K)=b4)
  (hE:∀W,Below w.heap.size w W->Calls Tryz.prog 117 #[.slice P n c,.slice Q m d] W fun en w'=>en= .returned (.bool b5)/\Below W.heap.size W w') :
  Calls Tryz.prog 89 #[iv x (.slice P n c),iv y (.slice Q m d)] w fun en w'=>en= .returned (.bool (b1 && b2 && b3 && b4 && b5))/\Below w.heap.size w w':=by
 unfold iv
 have HW:Below w.heap.size w ((w.alloc (.cells #[.int .i64 x.op,.int .i64 x.A,.int .i64 x.B,.int .u64 x.K,.slice P n c] 33)).alloc (.cells #[.int .i64 y.op,.int .i64 y.A,.int .i64 y.B,.int .u64 y.K,.slice Q m d] 33)):=((Below.refl _ _).alloc (Nat.le_refl _) _).alloc (by simp) _
 have HI:=hid ((InAt.at_ w w.heap.size x.op x.A x.B x.K (.slice P n c) 33 rfl).keep ((Below.refl _ _).alloc (Nat.le_refl _) (.cells #[.int .i64 y.op,.int .i64 y.A,.int .i64 y.B,.int .u64 y.K,.slice Q m d] 33)))
 have HJ:=hid (InAt.at_ (w.alloc (.cells #[.int .i64 x.op,.int .i64 x.A,.int .i64 x.B,.int .u64 x.K,.slice P n c] 33)) (w.heap.size+1) y.op y.A y.B y.K (.slice Q m d) 33 (by simp))
 have HW':=hid HW
 have HE:=hid hE
 clear HW hE
 obtain⟨i0,ic0,ic1,ic2,ic3,ic4,if0,if1,if2,if3,if4⟩:=HI.out
 obtain⟨o0,oc0,oc1,oc2,oc3,oc4,of0,of1,of2,of3,of4⟩:=HJ.out
 cases b1 with
 | false=>
  go_enter Tryz.func89,Tryz.ntmps89
  go_wp2_with fail
  exact bodyPost_ret (v:=.bool false) (by simp[results,Tryz.results89,go_sem]) rfl ⟨rfl,HW'.out⟩
 | true=>
  cases b2 with
  | false=>
   go_enter Tryz.func89,Tryz.ntmps89
   go_wp2_with fail
   exact bodyPost_ret (v:=.bool false) (by simp[results,Tryz.results89,go_sem]) rfl ⟨rfl,HW'.out⟩
  | true=>
   cases b3 with
   | false=>
    go_enter Tryz.func89,Tryz.ntmps89
    go_wp2_with fail
    exact bodyPost_ret (v:=.bool false) (by simp[results,Tryz.results89,go_sem]) rfl ⟨rfl,HW'.out⟩
   | true=>
    cases b4 with
    | false=>
     go_enter Tryz.func89,Tryz.ntmps89
     go_wp2_with fail
     exact bodyPost_ret (v:=.bool false) (by simp[results,Tryz.results89,go_sem]) rfl ⟨rfl,HW'.out⟩
    | true=>
     go_enter Tryz.func89,Tryz.ntmps89
     go_wp2_with fail
     refine(HE.out _ HW'.out).mono ?_
     rintro en w2 ⟨rfl,hb2⟩
     have HB2:=hid (HW'.out.trans (hb2.mono HW'.out.size))
     clear hb2
     go_wp2_with fail
     exact bodyPost_ret (v:=.bool b5) (by simp[results,Tryz.results89,go_sem]) rfl ⟨by simp,HB2.out⟩
theorem psame_any {x y:Ins}{o p:Value}{w:World}(hx:SlI w o x.L)(hy:SlI w p y.L):Calls Tryz.prog 89 #[iv x o,iv y p] w fun en w'=>en= .returned (.bool (smI x y))/\Below w.heap.size w w':=by
 obtain⟨P,c,ho,_⟩:=id hx
 obtain⟨Q,d,hp,_⟩:=id hy
 subst ho hp
 have:=psame_core x y P Q c d _ _ w _ _ _ _ _ rfl rfl rfl rfl (fun W hW=>equal_any (hx.keep hW) (hy.keep hW))
 have e1:(x.op == y.op && x.A == y.A && x.B == y.B && x.K == y.K && decide (x.L=y.L))=smI x y:=by
  unfold smI
  rw[Bool.eq_iff_iff]
  simp[and_assoc]
 rw[e1] at this
 exact this
end Go.Proofs.YtlappkflnlbfcaaGreatDoor.Ins
end
