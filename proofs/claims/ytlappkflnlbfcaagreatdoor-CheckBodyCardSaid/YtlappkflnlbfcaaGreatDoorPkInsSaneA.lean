/- InsPSaneA, InsPSaneB, InsSaneA. -/
import Derived.Test.YtlappkflnlbfcaaGreatDoorPkInsPSame
section
namespace Go.Proofs.YtlappkflnlbfcaaGreatDoor.Ins
open Lib (hid)
open Go.RowKit Ints Typ
set_option maxRecDepth 100000
set_option maxHeartbeats 2000000
set_option linter.unusedVariables false
theorem psane_0 (op A B K:Int)(P:Option Addr)(n c:Nat)(w:World)(s:Bool)
  (hK:∀W,Below w.heap.size w W->Calls Tryz.prog 61 #[.int .i64 op] W fun en w'=>en= .returned (.int .i64 0)/\Below W.heap.size W w') :
  Calls Tryz.prog 58 #[.agg #[.int .i64 op,.int .i64 A,.int .i64 B,.int .u64 K,.slice P n c]] w fun en w'=>en= .returned (.bool (false))/\Below w.heap.size w w':=by
 have HK:=hid hK
 have HW:=hid ((Below.refl w.heap.size w).alloc (Nat.le_refl _) (.cells #[.int .i64 op,.int .i64 A,.int .i64 B,.int .u64 K,.slice P n c] 33))
 have HI:=hid (InAt.at_ w w.heap.size op A B K (.slice P n c) 33 rfl)
 clear hK
 obtain⟨i0,ic0,ic1,ic2,ic3,ic4,if0,if1,if2,if3,if4⟩:=HI.out
 go_enter Tryz.func58,Tryz.ntmps58
 go_wp2_with fail
 refine(HK.out _ HW.out).mono ?_
 rintro en w2 ⟨rfl,hb⟩
 have HI:=hid (HI.out.keep hb)
 have HW:=hid (HW.out.trans (hb.mono HW.out.size))
 clear hb i0 ic0 ic1 ic2 ic3 ic4 if0 if1 if2 if3 if4
 obtain⟨i0,ic0,ic1,ic2,ic3,ic4,if0,if1,if2,if3,if4⟩:=HI.out
 go_wp2_with fail
 refine bodyPost_ret (v:=.bool false) (by simp[results,Tryz.results58,go_sem]) rfl ⟨rfl,HW.out⟩
theorem psane_1 (op A B K:Int)(P:Option Addr)(n c:Nat)(w:World)(s:Bool)
  (hK:∀W,Below w.heap.size w W->Calls Tryz.prog 61 #[.int .i64 op] W fun en w'=>en= .returned (.int .i64 1)/\Below W.heap.size W w')
  (hS:∀W,Below w.heap.size w W->Calls Tryz.prog 89 #[.agg #[.int .i64 op,.int .i64 A,.int .i64 B,.int .u64 K,.slice P n c],.agg #[.int .i64 op,.int .i64 0,.int .i64 0,.int .u64 0,.slice none 0 0]] W fun en w'=>en= .returned (.bool s)/\Below W.heap.size W w') :
  Calls Tryz.prog 58 #[.agg #[.int .i64 op,.int .i64 A,.int .i64 B,.int .u64 K,.slice P n c]] w fun en w'=>en= .returned (.bool (s))/\Below w.heap.size w w':=by
 have HK:=hid hK
 have HS:=hid hS
 have HW:=hid ((Below.refl w.heap.size w).alloc (Nat.le_refl _) (.cells #[.int .i64 op,.int .i64 A,.int .i64 B,.int .u64 K,.slice P n c] 33))
 have HI:=hid (InAt.at_ w w.heap.size op A B K (.slice P n c) 33 rfl)
 clear hK hS
 obtain⟨i0,ic0,ic1,ic2,ic3,ic4,if0,if1,if2,if3,if4⟩:=HI.out
 go_enter Tryz.func58,Tryz.ntmps58
 go_wp2_with fail
 refine(HK.out _ HW.out).mono ?_
 rintro en w2 ⟨rfl,hb⟩
 have HI:=hid (HI.out.keep hb)
 have HW:=hid (HW.out.trans (hb.mono HW.out.size))
 clear hb i0 ic0 ic1 ic2 ic3 ic4 if0 if1 if2 if3 if4
 obtain⟨i0,ic0,ic1,ic2,ic3,ic4,if0,if1,if2,if3,if4⟩:=HI.out
 go_wp2_with fail
 refine(HS.out _ HW.out).mono ?_
 rintro en w3 ⟨rfl,hb⟩
 have HI:=hid (HI.out.keep hb)
 have HW:=hid (HW.out.trans (hb.mono HW.out.size))
 clear hb i0 ic0 ic1 ic2 ic3 ic4 if0 if1 if2 if3 if4
 obtain⟨i0,ic0,ic1,ic2,ic3,ic4,if0,if1,if2,if3,if4⟩:=HI.out
 go_wp2_with fail
 refine bodyPost_ret (v:=.bool s) (by simp[results,Tryz.results58,go_sem]) rfl ⟨rfl,HW.out⟩
theorem psane_7 (op A B K:Int)(P:Option Addr)(n c:Nat)(w:World)(s:Bool)
  (hK:∀W,Below w.heap.size w W->Calls Tryz.prog 61 #[.int .i64 op] W fun en w'=>en= .returned (.int .i64 7)/\Below W.heap.size W w')
  (hS:∀W,Below w.heap.size w W->Calls Tryz.prog 89 #[.agg #[.int .i64 op,.int .i64 A,.int .i64 B,.int .u64 K,.slice P n c],.agg #[.int .i64 op,.int .i64 0,.int .i64 0,.int .u64 0,.slice none 0 0]] W fun en w'=>en= .returned (.bool s)/\Below W.heap.size W w') :
  Calls Tryz.prog 58 #[.agg #[.int .i64 op,.int .i64 A,.int .i64 B,.int .u64 K,.slice P n c]] w fun en w'=>en= .returned (.bool (s))/\Below w.heap.size w w':=by
 have HK:=hid hK
 have HS:=hid hS
 have HW:=hid ((Below.refl w.heap.size w).alloc (Nat.le_refl _) (.cells #[.int .i64 op,.int .i64 A,.int .i64 B,.int .u64 K,.slice P n c] 33))
 have HI:=hid (InAt.at_ w w.heap.size op A B K (.slice P n c) 33 rfl)
 clear hK hS
 obtain⟨i0,ic0,ic1,ic2,ic3,ic4,if0,if1,if2,if3,if4⟩:=HI.out
 go_enter Tryz.func58,Tryz.ntmps58
 go_wp2_with fail
 refine(HK.out _ HW.out).mono ?_
 rintro en w2 ⟨rfl,hb⟩
 have HI:=hid (HI.out.keep hb)
 have HW:=hid (HW.out.trans (hb.mono HW.out.size))
 clear hb i0 ic0 ic1 ic2 ic3 ic4 if0 if1 if2 if3 if4
 obtain⟨i0,ic0,ic1,ic2,ic3,ic4,if0,if1,if2,if3,if4⟩:=HI.out
 go_wp2_with fail
 refine(HS.out _ HW.out).mono ?_
 rintro en w3 ⟨rfl,hb⟩
 have HI:=hid (HI.out.keep hb)
 have HW:=hid (HW.out.trans (hb.mono HW.out.size))
 clear hb i0 ic0 ic1 ic2 ic3 ic4 if0 if1 if2 if3 if4
 obtain⟨i0,ic0,ic1,ic2,ic3,ic4,if0,if1,if2,if3,if4⟩:=HI.out
 go_wp2_with fail
 refine bodyPost_ret (v:=.bool s) (by simp[results,Tryz.results58,go_sem]) rfl ⟨rfl,HW.out⟩
theorem psane_2 (op A B K:Int)(P:Option Addr)(n c:Nat)(w:World)(b1 s:Bool)
  (hK:∀W,Below w.heap.size w W->Calls Tryz.prog 61 #[.int .i64 op] W fun en w'=>en= .returned (.int .i64 2)/\Below W.heap.size W w')
  (hb1:∀W,Below w.heap.size w W->Calls Tryz.prog 88 #[.int .i64 A] W fun en w'=>en= .returned (.bool b1)/\Below W.heap.size W w')
  (hS:∀W,Below w.heap.size w W->Calls Tryz.prog 89 #[.agg #[.int .i64 op,.int .i64 A,.int .i64 B,.int .u64 K,.slice P n c],.agg #[.int .i64 op,.int .i64 A,.int .i64 0,.int .u64 0,.slice none 0 0]] W fun en w'=>en= .returned (.bool s)/\Below W.heap.size W w') :
  Calls Tryz.prog 58 #[.agg #[.int .i64 op,.int .i64 A,.int .i64 B,.int .u64 K,.slice P n c]] w fun en w'=>en= .returned (.bool (b1 && s))/\Below w.heap.size w w':=by
 cases b1 with
 | false=>
  have HK:=hid hK
  have Hb1:=hid hb1
  have HS:=hid hS
  have HW:=hid ((Below.refl w.heap.size w).alloc (Nat.le_refl _) (.cells #[.int .i64 op,.int .i64 A,.int .i64 B,.int .u64 K,.slice P n c] 33))
  have HI:=hid (InAt.at_ w w.heap.size op A B K (.slice P n c) 33 rfl)
  clear hK hb1 hS
  obtain⟨i0,ic0,ic1,ic2,ic3,ic4,if0,if1,if2,if3,if4⟩:=HI.out
  go_enter Tryz.func58,Tryz.ntmps58
  go_wp2_with fail
  refine(HK.out _ HW.out).mono ?_
  rintro en w2 ⟨rfl,hb⟩
  have HI:=hid (HI.out.keep hb)
  have HW:=hid (HW.out.trans (hb.mono HW.out.size))
  clear hb i0 ic0 ic1 ic2 ic3 ic4 if0 if1 if2 if3 if4
  obtain⟨i0,ic0,ic1,ic2,ic3,ic4,if0,if1,if2,if3,if4⟩:=HI.out
  go_wp2_with fail
  refine(Hb1.out _ HW.out).mono ?_
  rintro en w3 ⟨rfl,hb⟩
  have HI:=hid (HI.out.keep hb)
  have HW:=hid (HW.out.trans (hb.mono HW.out.size))
  clear hb i0 ic0 ic1 ic2 ic3 ic4 if0 if1 if2 if3 if4
  obtain⟨i0,ic0,ic1,ic2,ic3,ic4,if0,if1,if2,if3,if4⟩:=HI.out
  go_wp2_with fail
  refine bodyPost_ret (v:=.bool false) (by simp[results,Tryz.results58,go_sem]) rfl ⟨by simp,HW.out⟩
 | true=>
  have HK:=hid hK
  have Hb1:=hid hb1
  have HS:=hid hS
  have HW:=hid ((Below.refl w.heap.size w).alloc (Nat.le_refl _) (.cells #[.int .i64 op,.int .i64 A,.int .i64 B,.int .u64 K,.slice P n c] 33))
  have HI:=hid (InAt.at_ w w.heap.size op A B K (.slice P n c) 33 rfl)
  clear hK hb1 hS
  obtain⟨i0,ic0,ic1,ic2,ic3,ic4,if0,if1,if2,if3,if4⟩:=HI.out
  go_enter Tryz.func58,Tryz.ntmps58
  go_wp2_with fail
  refine(HK.out _ HW.out).mono ?_
  rintro en w2 ⟨rfl,hb⟩
  have HI:=hid (HI.out.keep hb)
  have HW:=hid (HW.out.trans (hb.mono HW.out.size))
  clear hb i0 ic0 ic1 ic2 ic3 ic4 if0 if1 if2 if3 if4
  obtain⟨i0,ic0,ic1,ic2,ic3,ic4,if0,if1,if2,if3,if4⟩:=HI.out
  go_wp2_with fail
  refine(Hb1.out _ HW.out).mono ?_
  rintro en w3 ⟨rfl,hb⟩
  have HI:=hid (HI.out.keep hb)
  have HW:=hid (HW.out.trans (hb.mono HW.out.size))
  clear hb i0 ic0 ic1 ic2 ic3 ic4 if0 if1 if2 if3 if4
  obtain⟨i0,ic0,ic1,ic2,ic3,ic4,if0,if1,if2,if3,if4⟩:=HI.out
  go_wp2_with fail
  refine(HS.out _ HW.out).mono ?_
  rintro en w4 ⟨rfl,hb⟩
  have HI:=hid (HI.out.keep hb)
  have HW:=hid (HW.out.trans (hb.mono HW.out.size))
  clear hb i0 ic0 ic1 ic2 ic3 ic4 if0 if1 if2 if3 if4
  obtain⟨i0,ic0,ic1,ic2,ic3,ic4,if0,if1,if2,if3,if4⟩:=HI.out
  go_wp2_with fail
  refine bodyPost_ret (v:=.bool s) (by simp[results,Tryz.results58,go_sem]) rfl ⟨by simp,HW.out⟩
theorem psane_3 (op A B K:Int)(P:Option Addr)(n c:Nat)(w:World)(b1 s:Bool)
  (hK:∀W,Below w.heap.size w W->Calls Tryz.prog 61 #[.int .i64 op] W fun en w'=>en= .returned (.int .i64 3)/\Below W.heap.size W w')
  (hb1:∀W,Below w.heap.size w W->Calls Tryz.prog 90 #[.int .i64 A] W fun en w'=>en= .returned (.bool b1)/\Below W.heap.size W w')
  (hS:∀W,Below w.heap.size w W->Calls Tryz.prog 89 #[.agg #[.int .i64 op,.int .i64 A,.int .i64 B,.int .u64 K,.slice P n c],.agg #[.int .i64 op,.int .i64 A,.int .i64 0,.int .u64 0,.slice none 0 0]] W fun en w'=>en= .returned (.bool s)/\Below W.heap.size W w') :
  Calls Tryz.prog 58 #[.agg #[.int .i64 op,.int .i64 A,.int .i64 B,.int .u64 K,.slice P n c]] w fun en w'=>en= .returned (.bool (b1 && s))/\Below w.heap.size w w':=by
 cases b1 with
 | false=>
  have HK:=hid hK
  have Hb1:=hid hb1
  have HS:=hid hS
  have HW:=hid ((Below.refl w.heap.size w).alloc (Nat.le_refl _) (.cells #[.int .i64 op,.int .i64 A,.int .i64 B,.int .u64 K,.slice P n c] 33))
  have HI:=hid (InAt.at_ w w.heap.size op A B K (.slice P n c) 33 rfl)
  clear hK hb1 hS
  obtain⟨i0,ic0,ic1,ic2,ic3,ic4,if0,if1,if2,if3,if4⟩:=HI.out
  go_enter Tryz.func58,Tryz.ntmps58
  go_wp2_with fail
  refine(HK.out _ HW.out).mono ?_
  rintro en w2 ⟨rfl,hb⟩
  have HI:=hid (HI.out.keep hb)
  have HW:=hid (HW.out.trans (hb.mono HW.out.size))
  clear hb i0 ic0 ic1 ic2 ic3 ic4 if0 if1 if2 if3 if4
  obtain⟨i0,ic0,ic1,ic2,ic3,ic4,if0,if1,if2,if3,if4⟩:=HI.out
  go_wp2_with fail
  refine(Hb1.out _ HW.out).mono ?_
  rintro en w3 ⟨rfl,hb⟩
  have HI:=hid (HI.out.keep hb)
  have HW:=hid (HW.out.trans (hb.mono HW.out.size))
  clear hb i0 ic0 ic1 ic2 ic3 ic4 if0 if1 if2 if3 if4
  obtain⟨i0,ic0,ic1,ic2,ic3,ic4,if0,if1,if2,if3,if4⟩:=HI.out
  go_wp2_with fail
  refine bodyPost_ret (v:=.bool false) (by simp[results,Tryz.results58,go_sem]) rfl ⟨by simp,HW.out⟩
 | true=>
  have HK:=hid hK
  have Hb1:=hid hb1
  have HS:=hid hS
  have HW:=hid ((Below.refl w.heap.size w).alloc (Nat.le_refl _) (.cells #[.int .i64 op,.int .i64 A,.int .i64 B,.int .u64 K,.slice P n c] 33))
  have HI:=hid (InAt.at_ w w.heap.size op A B K (.slice P n c) 33 rfl)
  clear hK hb1 hS
  obtain⟨i0,ic0,ic1,ic2,ic3,ic4,if0,if1,if2,if3,if4⟩:=HI.out
  go_enter Tryz.func58,Tryz.ntmps58
  go_wp2_with fail
  refine(HK.out _ HW.out).mono ?_
  rintro en w2 ⟨rfl,hb⟩
  have HI:=hid (HI.out.keep hb)
  have HW:=hid (HW.out.trans (hb.mono HW.out.size))
  clear hb i0 ic0 ic1 ic2 ic3 ic4 if0 if1 if2 if3 if4
  obtain⟨i0,ic0,ic1,ic2,ic3,ic4,if0,if1,if2,if3,if4⟩:=HI.out
  go_wp2_with fail
  refine(Hb1.out _ HW.out).mono ?_
  rintro en w3 ⟨rfl,hb⟩
  have HI:=hid (HI.out.keep hb)
  have HW:=hid (HW.out.trans (hb.mono HW.out.size))
  clear hb i0 ic0 ic1 ic2 ic3 ic4 if0 if1 if2 if3 if4
  obtain⟨i0,ic0,ic1,ic2,ic3,ic4,if0,if1,if2,if3,if4⟩:=HI.out
  go_wp2_with fail
  refine(HS.out _ HW.out).mono ?_
  rintro en w4 ⟨rfl,hb⟩
  have HI:=hid (HI.out.keep hb)
  have HW:=hid (HW.out.trans (hb.mono HW.out.size))
  clear hb i0 ic0 ic1 ic2 ic3 ic4 if0 if1 if2 if3 if4
  obtain⟨i0,ic0,ic1,ic2,ic3,ic4,if0,if1,if2,if3,if4⟩:=HI.out
  go_wp2_with fail
  refine bodyPost_ret (v:=.bool s) (by simp[results,Tryz.results58,go_sem]) rfl ⟨by simp,HW.out⟩
theorem psane_5 (op A B K:Int)(P:Option Addr)(n c:Nat)(w:World)(b1 s:Bool)
  (hK:∀W,Below w.heap.size w W->Calls Tryz.prog 61 #[.int .i64 op] W fun en w'=>en= .returned (.int .i64 5)/\Below W.heap.size W w')
  (hb1:∀W,Below w.heap.size w W->Calls Tryz.prog 90 #[.int .i64 A] W fun en w'=>en= .returned (.bool b1)/\Below W.heap.size W w')
  (hS:∀W,Below w.heap.size w W->Calls Tryz.prog 89 #[.agg #[.int .i64 op,.int .i64 A,.int .i64 B,.int .u64 K,.slice P n c],.agg #[.int .i64 op,.int .i64 A,.int .i64 0,.int .u64 0,.slice none 0 0]] W fun en w'=>en= .returned (.bool s)/\Below W.heap.size W w') :
  Calls Tryz.prog 58 #[.agg #[.int .i64 op,.int .i64 A,.int .i64 B,.int .u64 K,.slice P n c]] w fun en w'=>en= .returned (.bool (b1 && s))/\Below w.heap.size w w':=by
 cases b1 with
 | false=>
  have HK:=hid hK
  have Hb1:=hid hb1
  have HS:=hid hS
  have HW:=hid ((Below.refl w.heap.size w).alloc (Nat.le_refl _) (.cells #[.int .i64 op,.int .i64 A,.int .i64 B,.int .u64 K,.slice P n c] 33))
  have HI:=hid (InAt.at_ w w.heap.size op A B K (.slice P n c) 33 rfl)
  clear hK hb1 hS
  obtain⟨i0,ic0,ic1,ic2,ic3,ic4,if0,if1,if2,if3,if4⟩:=HI.out
  go_enter Tryz.func58,Tryz.ntmps58
  go_wp2_with fail
  refine(HK.out _ HW.out).mono ?_
  rintro en w2 ⟨rfl,hb⟩
  have HI:=hid (HI.out.keep hb)
  have HW:=hid (HW.out.trans (hb.mono HW.out.size))
  clear hb i0 ic0 ic1 ic2 ic3 ic4 if0 if1 if2 if3 if4
  obtain⟨i0,ic0,ic1,ic2,ic3,ic4,if0,if1,if2,if3,if4⟩:=HI.out
  go_wp2_with fail
  refine(Hb1.out _ HW.out).mono ?_
  rintro en w3 ⟨rfl,hb⟩
  have HI:=hid (HI.out.keep hb)
  have HW:=hid (HW.out.trans (hb.mono HW.out.size))
  clear hb i0 ic0 ic1 ic2 ic3 ic4 if0 if1 if2 if3 if4
  obtain⟨i0,ic0,ic1,ic2,ic3,ic4,if0,if1,if2,if3,if4⟩:=HI.out
  go_wp2_with fail
  refine bodyPost_ret (v:=.bool false) (by simp[results,Tryz.results58,go_sem]) rfl ⟨by simp,HW.out⟩
 | true=>
  have HK:=hid hK
  have Hb1:=hid hb1
  have HS:=hid hS
  have HW:=hid ((Below.refl w.heap.size w).alloc (Nat.le_refl _) (.cells #[.int .i64 op,.int .i64 A,.int .i64 B,.int .u64 K,.slice P n c] 33))
  have HI:=hid (InAt.at_ w w.heap.size op A B K (.slice P n c) 33 rfl)
  clear hK hb1 hS
  obtain⟨i0,ic0,ic1,ic2,ic3,ic4,if0,if1,if2,if3,if4⟩:=HI.out
  go_enter Tryz.func58,Tryz.ntmps58
  go_wp2_with fail
  refine(HK.out _ HW.out).mono ?_
  rintro en w2 ⟨rfl,hb⟩
  have HI:=hid (HI.out.keep hb)
  have HW:=hid (HW.out.trans (hb.mono HW.out.size))
  clear hb i0 ic0 ic1 ic2 ic3 ic4 if0 if1 if2 if3 if4
  obtain⟨i0,ic0,ic1,ic2,ic3,ic4,if0,if1,if2,if3,if4⟩:=HI.out
  go_wp2_with fail
  refine(Hb1.out _ HW.out).mono ?_
  rintro en w3 ⟨rfl,hb⟩
  have HI:=hid (HI.out.keep hb)
  have HW:=hid (HW.out.trans (hb.mono HW.out.size))
  clear hb i0 ic0 ic1 ic2 ic3 ic4 if0 if1 if2 if3 if4
  obtain⟨i0,ic0,ic1,ic2,ic3,ic4,if0,if1,if2,if3,if4⟩:=HI.out
  go_wp2_with fail
  refine(HS.out _ HW.out).mono ?_
  rintro en w4 ⟨rfl,hb⟩
  have HI:=hid (HI.out.keep hb)
  have HW:=hid (HW.out.trans (hb.mono HW.out.size))
  clear hb i0 ic0 ic1 ic2 ic3 ic4 if0 if1 if2 if3 if4
  obtain⟨i0,ic0,ic1,ic2,ic3,ic4,if0,if1,if2,if3,if4⟩:=HI.out
  go_wp2_with fail
  refine bodyPost_ret (v:=.bool s) (by simp[results,Tryz.results58,go_sem]) rfl ⟨by simp,HW.out⟩
theorem psane_4 (op A B K:Int)(P:Option Addr)(n c:Nat)(w:World)(b1 b2 s:Bool)
  (hK:∀W,Below w.heap.size w W->Calls Tryz.prog 61 #[.int .i64 op] W fun en w'=>en= .returned (.int .i64 4)/\Below W.heap.size W w')
  (hb1:∀W,Below w.heap.size w W->Calls Tryz.prog 91 #[.slice P n c] W fun en w'=>en= .returned (.bool b1)/\Below W.heap.size W w')
  (hb2:∀W,Below w.heap.size w W->Calls Tryz.prog 90 #[.int .i64 A] W fun en w'=>en= .returned (.bool b2)/\Below W.heap.size W w')
  (hS:∀W,Below w.heap.size w W->Calls Tryz.prog 89 #[.agg #[.int .i64 op,.int .i64 A,.int .i64 B,.int .u64 K,.slice P n c],.agg #[.int .i64 op,.int .i64 A,.int .i64 0,.int .u64 0,.slice P n c]] W fun en w'=>en= .returned (.bool s)/\Below W.heap.size W w') :
  Calls Tryz.prog 58 #[.agg #[.int .i64 op,.int .i64 A,.int .i64 B,.int .u64 K,.slice P n c]] w fun en w'=>en= .returned (.bool (b1 && b2 && s))/\Below w.heap.size w w':=by
 cases b1 with
 | false=>
  have HK:=hid hK
  have Hb1:=hid hb1
  have Hb2:=hid hb2
  have HS:=hid hS
  have HW:=hid ((Below.refl w.heap.size w).alloc (Nat.le_refl _) (.cells #[.int .i64 op,.int .i64 A,.int .i64 B,.int .u64 K,.slice P n c] 33))
  have HI:=hid (InAt.at_ w w.heap.size op A B K (.slice P n c) 33 rfl)
  clear hK hb1 hb2 hS
  obtain⟨i0,ic0,ic1,ic2,ic3,ic4,if0,if1,if2,if3,if4⟩:=HI.out
  go_enter Tryz.func58,Tryz.ntmps58
  go_wp2_with fail
  refine(HK.out _ HW.out).mono ?_
  rintro en w2 ⟨rfl,hb⟩
  have HI:=hid (HI.out.keep hb)
  have HW:=hid (HW.out.trans (hb.mono HW.out.size))
  clear hb i0 ic0 ic1 ic2 ic3 ic4 if0 if1 if2 if3 if4
  obtain⟨i0,ic0,ic1,ic2,ic3,ic4,if0,if1,if2,if3,if4⟩:=HI.out
  go_wp2_with fail
  refine(Hb1.out _ HW.out).mono ?_
  rintro en w3 ⟨rfl,hb⟩
  have HI:=hid (HI.out.keep hb)
  have HW:=hid (HW.out.trans (hb.mono HW.out.size))
  clear hb i0 ic0 ic1 ic2 ic3 ic4 if0 if1 if2 if3 if4
  obtain⟨i0,ic0,ic1,ic2,ic3,ic4,if0,if1,if2,if3,if4⟩:=HI.out
  go_wp2_with fail
  refine bodyPost_ret (v:=.bool false) (by simp[results,Tryz.results58,go_sem]) rfl ⟨by simp,HW.out⟩
 | true=>
  cases b2 with
  | false=>
   have HK:=hid hK
   have Hb1:=hid hb1
   have Hb2:=hid hb2
   have HS:=hid hS
   have HW:=hid ((Below.refl w.heap.size w).alloc (Nat.le_refl _) (.cells #[.int .i64 op,.int .i64 A,.int .i64 B,.int .u64 K,.slice P n c] 33))
   have HI:=hid (InAt.at_ w w.heap.size op A B K (.slice P n c) 33 rfl)
   clear hK hb1 hb2 hS
   obtain⟨i0,ic0,ic1,ic2,ic3,ic4,if0,if1,if2,if3,if4⟩:=HI.out
   go_enter Tryz.func58,Tryz.ntmps58
   go_wp2_with fail
   refine(HK.out _ HW.out).mono ?_
   rintro en w2 ⟨rfl,hb⟩
   have HI:=hid (HI.out.keep hb)
   have HW:=hid (HW.out.trans (hb.mono HW.out.size))
   clear hb i0 ic0 ic1 ic2 ic3 ic4 if0 if1 if2 if3 if4
   obtain⟨i0,ic0,ic1,ic2,ic3,ic4,if0,if1,if2,if3,if4⟩:=HI.out
   go_wp2_with fail
   refine(Hb1.out _ HW.out).mono ?_
   rintro en w3 ⟨rfl,hb⟩
   have HI:=hid (HI.out.keep hb)
   have HW:=hid (HW.out.trans (hb.mono HW.out.size))
   clear hb i0 ic0 ic1 ic2 ic3 ic4 if0 if1 if2 if3 if4
   obtain⟨i0,ic0,ic1,ic2,ic3,ic4,if0,if1,if2,if3,if4⟩:=HI.out
   go_wp2_with fail
   refine(Hb2.out _ HW.out).mono ?_
   rintro en w4 ⟨rfl,hb⟩
   have HI:=hid (HI.out.keep hb)
   have HW:=hid (HW.out.trans (hb.mono HW.out.size))
   clear hb i0 ic0 ic1 ic2 ic3 ic4 if0 if1 if2 if3 if4
   obtain⟨i0,ic0,ic1,ic2,ic3,ic4,if0,if1,if2,if3,if4⟩:=HI.out
   go_wp2_with fail
   refine bodyPost_ret (v:=.bool false) (by simp[results,Tryz.results58,go_sem]) rfl ⟨by simp,HW.out⟩
  | true=>
   have HK:=hid hK
   have Hb1:=hid hb1
   have Hb2:=hid hb2
   have HS:=hid hS
   have HW:=hid ((Below.refl w.heap.size w).alloc (Nat.le_refl _) (.cells #[.int .i64 op,.int .i64 A,.int .i64 B,.int .u64 K,.slice P n c] 33))
   have HI:=hid (InAt.at_ w w.heap.size op A B K (.slice P n c) 33 rfl)
   clear hK hb1 hb2 hS
   obtain⟨i0,ic0,ic1,ic2,ic3,ic4,if0,if1,if2,if3,if4⟩:=HI.out
   go_enter Tryz.func58,Tryz.ntmps58
   go_wp2_with fail
   refine(HK.out _ HW.out).mono ?_
   rintro en w2 ⟨rfl,hb⟩
   have HI:=hid (HI.out.keep hb)
   have HW:=hid (HW.out.trans (hb.mono HW.out.size))
   clear hb i0 ic0 ic1 ic2 ic3 ic4 if0 if1 if2 if3 if4
   obtain⟨i0,ic0,ic1,ic2,ic3,ic4,if0,if1,if2,if3,if4⟩:=HI.out
   go_wp2_with fail
   refine(Hb1.out _ HW.out).mono ?_
   rintro en w3 ⟨rfl,hb⟩
   have HI:=hid (HI.out.keep hb)
   have HW:=hid (HW.out.trans (hb.mono HW.out.size))
   clear hb i0 ic0 ic1 ic2 ic3 ic4 if0 if1 if2 if3 if4
   obtain⟨i0,ic0,ic1,ic2,ic3,ic4,if0,if1,if2,if3,if4⟩:=HI.out
   go_wp2_with fail
   refine(Hb2.out _ HW.out).mono ?_
   rintro en w4 ⟨rfl,hb⟩
   have HI:=hid (HI.out.keep hb)
   have HW:=hid (HW.out.trans (hb.mono HW.out.size))
   clear hb i0 ic0 ic1 ic2 ic3 ic4 if0 if1 if2 if3 if4
   obtain⟨i0,ic0,ic1,ic2,ic3,ic4,if0,if1,if2,if3,if4⟩:=HI.out
   go_wp2_with fail
   refine(HS.out _ HW.out).mono ?_
   rintro en w5 ⟨rfl,hb⟩
   have HI:=hid (HI.out.keep hb)
   have HW:=hid (HW.out.trans (hb.mono HW.out.size))
   clear hb i0 ic0 ic1 ic2 ic3 ic4 if0 if1 if2 if3 if4
   obtain⟨i0,ic0,ic1,ic2,ic3,ic4,if0,if1,if2,if3,if4⟩:=HI.out
   go_wp2_with fail
   refine bodyPost_ret (v:=.bool s) (by simp[results,Tryz.results58,go_sem]) rfl ⟨by simp,HW.out⟩
theorem psane_6 (op A B K:Int)(P:Option Addr)(n c:Nat)(w:World)(b1 b2 s:Bool)
  (hK:∀W,Below w.heap.size w W->Calls Tryz.prog 61 #[.int .i64 op] W fun en w'=>en= .returned (.int .i64 6)/\Below W.heap.size W w')
  (hb1:∀W,Below w.heap.size w W->Calls Tryz.prog 90 #[.int .i64 A] W fun en w'=>en= .returned (.bool b1)/\Below W.heap.size W w')
  (hb2:∀W,Below w.heap.size w W->Calls Tryz.prog 90 #[.int .i64 B] W fun en w'=>en= .returned (.bool b2)/\Below W.heap.size W w')
  (hS:∀W,Below w.heap.size w W->Calls Tryz.prog 89 #[.agg #[.int .i64 op,.int .i64 A,.int .i64 B,.int .u64 K,.slice P n c],.agg #[.int .i64 op,.int .i64 A,.int .i64 B,.int .u64 0,.slice none 0 0]] W fun en w'=>en= .returned (.bool s)/\Below W.heap.size W w') :
  Calls Tryz.prog 58 #[.agg #[.int .i64 op,.int .i64 A,.int .i64 B,.int .u64 K,.slice P n c]] w fun en w'=>en= .returned (.bool (b1 && b2 && s))/\Below w.heap.size w w':=by
 cases b1 with
 | false=>
  have HK:=hid hK
  have Hb1:=hid hb1
  have Hb2:=hid hb2
  have HS:=hid hS
  have HW:=hid ((Below.refl w.heap.size w).alloc (Nat.le_refl _) (.cells #[.int .i64 op,.int .i64 A,.int .i64 B,.int .u64 K,.slice P n c] 33))
  have HI:=hid (InAt.at_ w w.heap.size op A B K (.slice P n c) 33 rfl)
  clear hK hb1 hb2 hS
  obtain⟨i0,ic0,ic1,ic2,ic3,ic4,if0,if1,if2,if3,if4⟩:=HI.out
  go_enter Tryz.func58,Tryz.ntmps58
  go_wp2_with fail
  refine(HK.out _ HW.out).mono ?_
  rintro en w2 ⟨rfl,hb⟩
  have HI:=hid (HI.out.keep hb)
  have HW:=hid (HW.out.trans (hb.mono HW.out.size))
  clear hb i0 ic0 ic1 ic2 ic3 ic4 if0 if1 if2 if3 if4
  obtain⟨i0,ic0,ic1,ic2,ic3,ic4,if0,if1,if2,if3,if4⟩:=HI.out
  go_wp2_with fail
  refine(Hb1.out _ HW.out).mono ?_
  rintro en w3 ⟨rfl,hb⟩
  have HI:=hid (HI.out.keep hb)
  have HW:=hid (HW.out.trans (hb.mono HW.out.size))
  clear hb i0 ic0 ic1 ic2 ic3 ic4 if0 if1 if2 if3 if4
  obtain⟨i0,ic0,ic1,ic2,ic3,ic4,if0,if1,if2,if3,if4⟩:=HI.out
  go_wp2_with fail
  refine bodyPost_ret (v:=.bool false) (by simp[results,Tryz.results58,go_sem]) rfl ⟨by simp,HW.out⟩
 | true=>
  cases b2 with
  | false=>
   have HK:=hid hK
   have Hb1:=hid hb1
   have Hb2:=hid hb2
   have HS:=hid hS
   have HW:=hid ((Below.refl w.heap.size w).alloc (Nat.le_refl _) (.cells #[.int .i64 op,.int .i64 A,.int .i64 B,.int .u64 K,.slice P n c] 33))
   have HI:=hid (InAt.at_ w w.heap.size op A B K (.slice P n c) 33 rfl)
   clear hK hb1 hb2 hS
   obtain⟨i0,ic0,ic1,ic2,ic3,ic4,if0,if1,if2,if3,if4⟩:=HI.out
   go_enter Tryz.func58,Tryz.ntmps58
   go_wp2_with fail
   refine(HK.out _ HW.out).mono ?_
   rintro en w2 ⟨rfl,hb⟩
   have HI:=hid (HI.out.keep hb)
   have HW:=hid (HW.out.trans (hb.mono HW.out.size))
   clear hb i0 ic0 ic1 ic2 ic3 ic4 if0 if1 if2 if3 if4
   obtain⟨i0,ic0,ic1,ic2,ic3,ic4,if0,if1,if2,if3,if4⟩:=HI.out
   go_wp2_with fail
   refine(Hb1.out _ HW.out).mono ?_
   rintro en w3 ⟨rfl,hb⟩
   have HI:=hid (HI.out.keep hb)
   have HW:=hid (HW.out.trans (hb.mono HW.out.size))
   clear hb i0 ic0 ic1 ic2 ic3 ic4 if0 if1 if2 if3 if4
   obtain⟨i0,ic0,ic1,ic2,ic3,ic4,if0,if1,if2,if3,if4⟩:=HI.out
   go_wp2_with fail
   refine(Hb2.out _ HW.out).mono ?_
   rintro en w4 ⟨rfl,hb⟩
   have HI:=hid (HI.out.keep hb)
   have HW:=hid (HW.out.trans (hb.mono HW.out.size))
   clear hb i0 ic0 ic1 ic2 ic3 ic4 if0 if1 if2 if3 if4
   obtain⟨i0,ic0,ic1,ic2,ic3,ic4,if0,if1,if2,if3,if4⟩:=HI.out
   go_wp2_with fail
   refine bodyPost_ret (v:=.bool false) (by simp[results,Tryz.results58,go_sem]) rfl ⟨by simp,HW.out⟩
  | true=>
   have HK:=hid hK
   have Hb1:=hid hb1
   have Hb2:=hid hb2
   have HS:=hid hS
   have HW:=hid ((Below.refl w.heap.size w).alloc (Nat.le_refl _) (.cells #[.int .i64 op,.int .i64 A,.int .i64 B,.int .u64 K,.slice P n c] 33))
   have HI:=hid (InAt.at_ w w.heap.size op A B K (.slice P n c) 33 rfl)
   clear hK hb1 hb2 hS
   obtain⟨i0,ic0,ic1,ic2,ic3,ic4,if0,if1,if2,if3,if4⟩:=HI.out
   go_enter Tryz.func58,Tryz.ntmps58
   go_wp2_with fail
   refine(HK.out _ HW.out).mono ?_
   rintro en w2 ⟨rfl,hb⟩
   have HI:=hid (HI.out.keep hb)
   have HW:=hid (HW.out.trans (hb.mono HW.out.size))
   clear hb i0 ic0 ic1 ic2 ic3 ic4 if0 if1 if2 if3 if4
   obtain⟨i0,ic0,ic1,ic2,ic3,ic4,if0,if1,if2,if3,if4⟩:=HI.out
   go_wp2_with fail
   refine(Hb1.out _ HW.out).mono ?_
   rintro en w3 ⟨rfl,hb⟩
   have HI:=hid (HI.out.keep hb)
   have HW:=hid (HW.out.trans (hb.mono HW.out.size))
   clear hb i0 ic0 ic1 ic2 ic3 ic4 if0 if1 if2 if3 if4
   obtain⟨i0,ic0,ic1,ic2,ic3,ic4,if0,if1,if2,if3,if4⟩:=HI.out
   go_wp2_with fail
   refine(Hb2.out _ HW.out).mono ?_
   rintro en w4 ⟨rfl,hb⟩
   have HI:=hid (HI.out.keep hb)
   have HW:=hid (HW.out.trans (hb.mono HW.out.size))
   clear hb i0 ic0 ic1 ic2 ic3 ic4 if0 if1 if2 if3 if4
   obtain⟨i0,ic0,ic1,ic2,ic3,ic4,if0,if1,if2,if3,if4⟩:=HI.out
   go_wp2_with fail
   refine(HS.out _ HW.out).mono ?_
   rintro en w5 ⟨rfl,hb⟩
   have HI:=hid (HI.out.keep hb)
   have HW:=hid (HW.out.trans (hb.mono HW.out.size))
   clear hb i0 ic0 ic1 ic2 ic3 ic4 if0 if1 if2 if3 if4
   obtain⟨i0,ic0,ic1,ic2,ic3,ic4,if0,if1,if2,if3,if4⟩:=HI.out
   go_wp2_with fail
   refine bodyPost_ret (v:=.bool s) (by simp[results,Tryz.results58,go_sem]) rfl ⟨by simp,HW.out⟩
theorem psane_8 (op A B K:Int)(P:Option Addr)(n c:Nat)(w:World)(b1 s:Bool)
  (hK:∀W,Below w.heap.size w W->Calls Tryz.prog 61 #[.int .i64 op] W fun en w'=>en= .returned (.int .i64 8)/\Below W.heap.size W w')
  (hb1:∀W,Below w.heap.size w W->Calls Tryz.prog 92 #[.int .u8 127,.int .u64 K] W fun en w'=>en= .returned (.bool b1)/\Below W.heap.size W w')
  (hS:∀W,Below w.heap.size w W->Calls Tryz.prog 89 #[.agg #[.int .i64 op,.int .i64 A,.int .i64 B,.int .u64 K,.slice P n c],.agg #[.int .i64 op,.int .i64 0,.int .i64 0,.int .u64 K,.slice none 0 0]] W fun en w'=>en= .returned (.bool s)/\Below W.heap.size W w') :
  Calls Tryz.prog 58 #[.agg #[.int .i64 op,.int .i64 A,.int .i64 B,.int .u64 K,.slice P n c]] w fun en w'=>en= .returned (.bool (b1 && s))/\Below w.heap.size w w':=by
 cases b1 with
 | false=>
  have HK:=hid hK
  have Hb1:=hid hb1
  have HS:=hid hS
  have HW:=hid ((Below.refl w.heap.size w).alloc (Nat.le_refl _) (.cells #[.int .i64 op,.int .i64 A,.int .i64 B,.int .u64 K,.slice P n c] 33))
  have HI:=hid (InAt.at_ w w.heap.size op A B K (.slice P n c) 33 rfl)
  clear hK hb1 hS
  obtain⟨i0,ic0,ic1,ic2,ic3,ic4,if0,if1,if2,if3,if4⟩:=HI.out
  go_enter Tryz.func58,Tryz.ntmps58
  go_wp2_with fail
  refine(HK.out _ HW.out).mono ?_
  rintro en w2 ⟨rfl,hb⟩
  have HI:=hid (HI.out.keep hb)
  have HW:=hid (HW.out.trans (hb.mono HW.out.size))
  clear hb i0 ic0 ic1 ic2 ic3 ic4 if0 if1 if2 if3 if4
  obtain⟨i0,ic0,ic1,ic2,ic3,ic4,if0,if1,if2,if3,if4⟩:=HI.out
  go_wp2_with fail
  refine(Hb1.out _ HW.out).mono ?_
  rintro en w3 ⟨rfl,hb⟩
  have HI:=hid (HI.out.keep hb)
  have HW:=hid (HW.out.trans (hb.mono HW.out.size))
  clear hb i0 ic0 ic1 ic2 ic3 ic4 if0 if1 if2 if3 if4
  obtain⟨i0,ic0,ic1,ic2,ic3,ic4,if0,if1,if2,if3,if4⟩:=HI.out
  go_wp2_with fail
  refine bodyPost_ret (v:=.bool false) (by simp[results,Tryz.results58,go_sem]) rfl ⟨by simp,HW.out⟩
 | true=>
  have HK:=hid hK
  have Hb1:=hid hb1
  have HS:=hid hS
  have HW:=hid ((Below.refl w.heap.size w).alloc (Nat.le_refl _) (.cells #[.int .i64 op,.int .i64 A,.int .i64 B,.int .u64 K,.slice P n c] 33))
  have HI:=hid (InAt.at_ w w.heap.size op A B K (.slice P n c) 33 rfl)
  clear hK hb1 hS
  obtain⟨i0,ic0,ic1,ic2,ic3,ic4,if0,if1,if2,if3,if4⟩:=HI.out
  go_enter Tryz.func58,Tryz.ntmps58
  go_wp2_with fail
  refine(HK.out _ HW.out).mono ?_
  rintro en w2 ⟨rfl,hb⟩
  have HI:=hid (HI.out.keep hb)
  have HW:=hid (HW.out.trans (hb.mono HW.out.size))
  clear hb i0 ic0 ic1 ic2 ic3 ic4 if0 if1 if2 if3 if4
  obtain⟨i0,ic0,ic1,ic2,ic3,ic4,if0,if1,if2,if3,if4⟩:=HI.out
  go_wp2_with fail
  refine(Hb1.out _ HW.out).mono ?_
  rintro en w3 ⟨rfl,hb⟩
  have HI:=hid (HI.out.keep hb)
  have HW:=hid (HW.out.trans (hb.mono HW.out.size))
  clear hb i0 ic0 ic1 ic2 ic3 ic4 if0 if1 if2 if3 if4
  obtain⟨i0,ic0,ic1,ic2,ic3,ic4,if0,if1,if2,if3,if4⟩:=HI.out
  go_wp2_with fail
  refine(HS.out _ HW.out).mono ?_
  rintro en w4 ⟨rfl,hb⟩
  have HI:=hid (HI.out.keep hb)
  have HW:=hid (HW.out.trans (hb.mono HW.out.size))
  clear hb i0 ic0 ic1 ic2 ic3 ic4 if0 if1 if2 if3 if4
  obtain⟨i0,ic0,ic1,ic2,ic3,ic4,if0,if1,if2,if3,if4⟩:=HI.out
  go_wp2_with fail
  refine bodyPost_ret (v:=.bool s) (by simp[results,Tryz.results58,go_sem]) rfl ⟨by simp,HW.out⟩
theorem psane_9 (op A B K:Int)(P:Option Addr)(n c:Nat)(w:World)(b1 s:Bool)
  (hK:∀W,Below w.heap.size w W->Calls Tryz.prog 61 #[.int .i64 op] W fun en w'=>en= .returned (.int .i64 9)/\Below W.heap.size W w')
  (hb1:∀W,Below w.heap.size w W->Calls Tryz.prog 92 #[.int .u8 126,.int .u64 K] W fun en w'=>en= .returned (.bool b1)/\Below W.heap.size W w')
  (hS:∀W,Below w.heap.size w W->Calls Tryz.prog 89 #[.agg #[.int .i64 op,.int .i64 A,.int .i64 B,.int .u64 K,.slice P n c],.agg #[.int .i64 op,.int .i64 0,.int .i64 0,.int .u64 K,.slice none 0 0]] W fun en w'=>en= .returned (.bool s)/\Below W.heap.size W w') :
  Calls Tryz.prog 58 #[.agg #[.int .i64 op,.int .i64 A,.int .i64 B,.int .u64 K,.slice P n c]] w fun en w'=>en= .returned (.bool (b1 && s))/\Below w.heap.size w w':=by
 cases b1 with
 | false=>
  have HK:=hid hK
  have Hb1:=hid hb1
  have HS:=hid hS
  have HW:=hid ((Below.refl w.heap.size w).alloc (Nat.le_refl _) (.cells #[.int .i64 op,.int .i64 A,.int .i64 B,.int .u64 K,.slice P n c] 33))
  have HI:=hid (InAt.at_ w w.heap.size op A B K (.slice P n c) 33 rfl)
  clear hK hb1 hS
  obtain⟨i0,ic0,ic1,ic2,ic3,ic4,if0,if1,if2,if3,if4⟩:=HI.out
  go_enter Tryz.func58,Tryz.ntmps58
  go_wp2_with fail
  refine(HK.out _ HW.out).mono ?_
  rintro en w2 ⟨rfl,hb⟩
  have HI:=hid (HI.out.keep hb)
  have HW:=hid (HW.out.trans (hb.mono HW.out.size))
  clear hb i0 ic0 ic1 ic2 ic3 ic4 if0 if1 if2 if3 if4
  obtain⟨i0,ic0,ic1,ic2,ic3,ic4,if0,if1,if2,if3,if4⟩:=HI.out
  go_wp2_with fail
  refine(Hb1.out _ HW.out).mono ?_
  rintro en w3 ⟨rfl,hb⟩
  have HI:=hid (HI.out.keep hb)
  have HW:=hid (HW.out.trans (hb.mono HW.out.size))
  clear hb i0 ic0 ic1 ic2 ic3 ic4 if0 if1 if2 if3 if4
  obtain⟨i0,ic0,ic1,ic2,ic3,ic4,if0,if1,if2,if3,if4⟩:=HI.out
  go_wp2_with fail
  refine bodyPost_ret (v:=.bool false) (by simp[results,Tryz.results58,go_sem]) rfl ⟨by simp,HW.out⟩
 | true=>
  have HK:=hid hK
  have Hb1:=hid hb1
  have HS:=hid hS
  have HW:=hid ((Below.refl w.heap.size w).alloc (Nat.le_refl _) (.cells #[.int .i64 op,.int .i64 A,.int .i64 B,.int .u64 K,.slice P n c] 33))
  have HI:=hid (InAt.at_ w w.heap.size op A B K (.slice P n c) 33 rfl)
  clear hK hb1 hS
  obtain⟨i0,ic0,ic1,ic2,ic3,ic4,if0,if1,if2,if3,if4⟩:=HI.out
  go_enter Tryz.func58,Tryz.ntmps58
  go_wp2_with fail
  refine(HK.out _ HW.out).mono ?_
  rintro en w2 ⟨rfl,hb⟩
  have HI:=hid (HI.out.keep hb)
  have HW:=hid (HW.out.trans (hb.mono HW.out.size))
  clear hb i0 ic0 ic1 ic2 ic3 ic4 if0 if1 if2 if3 if4
  obtain⟨i0,ic0,ic1,ic2,ic3,ic4,if0,if1,if2,if3,if4⟩:=HI.out
  go_wp2_with fail
  refine(Hb1.out _ HW.out).mono ?_
  rintro en w3 ⟨rfl,hb⟩
  have HI:=hid (HI.out.keep hb)
  have HW:=hid (HW.out.trans (hb.mono HW.out.size))
  clear hb i0 ic0 ic1 ic2 ic3 ic4 if0 if1 if2 if3 if4
  obtain⟨i0,ic0,ic1,ic2,ic3,ic4,if0,if1,if2,if3,if4⟩:=HI.out
  go_wp2_with fail
  refine(HS.out _ HW.out).mono ?_
  rintro en w4 ⟨rfl,hb⟩
  have HI:=hid (HI.out.keep hb)
  have HW:=hid (HW.out.trans (hb.mono HW.out.size))
  clear hb i0 ic0 ic1 ic2 ic3 ic4 if0 if1 if2 if3 if4
  obtain⟨i0,ic0,ic1,ic2,ic3,ic4,if0,if1,if2,if3,if4⟩:=HI.out
  go_wp2_with fail
  refine bodyPost_ret (v:=.bool s) (by simp[results,Tryz.results58,go_sem]) rfl ⟨by simp,HW.out⟩
end Go.Proofs.YtlappkflnlbfcaaGreatDoor.Ins
end
section
namespace Go.Proofs.YtlappkflnlbfcaaGreatDoor.Ins
open Lib (hid)
open Go.RowKit Ints Typ
set_option maxRecDepth 100000
set_option maxHeartbeats 4000000
def okN (x:Int):Bool:=decide (0<=x) && decide (x<=4294967295)
theorem rsane_far (op A B K k:Int)(P:Option Addr)(n c:Nat)(w:World)(bA bA2 c4 bn c6 bB c8 c9 bK:Bool)
  (hK:∀W,Calls Tryz.prog 63 #[.int .i64 op] W fun en w'=>en= .returned (.int .i64 k)/\Below W.heap.size W w')
  (q1:decide (0<=A)=bA) (q2:decide (A<=4294967295)=bA2) (q3:(k != 4)=c4) (q4:decide (0<n)=bn) (q5:(k != 6)=c6) (q6:(B != 0)=bB) (q7:(k != 8)=c8) (q8:(k != 9)=c9) (q9:(K != 0)=bK)
  (h:(c4 && bn || c6 && bB || c8 && c9 && bK)=true) :
  Calls Tryz.prog 29 #[.agg #[.int .i64 op,.int .i64 A,.int .i64 B,.int .u64 K,.slice P n c]] w fun en w'=>en= .returned (.bool false)/\Below w.heap.size w w':=by
 cases c4 with
 | true=>
  cases bn with
  | true=>
   have HK:=hid hK
   have HA1:=hid ((Below.refl w.heap.size w).alloc (Nat.le_refl _) (.cells #[.int .i64 op,.int .i64 A,.int .i64 B,.int .u64 K,.slice P n c] 33))
   have HI:=hid (InAt.at_ w w.heap.size op A B K (.slice P n c) 33 rfl)
   clear hK
   go_enter Tryz.func29,Tryz.ntmps29
   go_wp2_with fail
   refine(HK.out _).mono ?_
   rintro en w2 ⟨rfl,hb2⟩
   have HI:=hid (HI.out.keep hb2)
   have HW:=hid (HA1.out.trans (hb2.mono HA1.out.size))
   clear hb2
   obtain⟨i0,ic0,ic1,ic2,ic3,ic4,if0,if1,if2,if3,if4⟩:=HI.out
   go_wp2_with fail
   all_goals exact bodyPost_ret (v:=.bool false) (by simp[results,Tryz.results29,go_sem]) rfl ⟨rfl,HW.out⟩
  | false=>
   cases c6 with
   | true=>
    cases bB with
    | true=>
     have HK:=hid hK
     have HA1:=hid ((Below.refl w.heap.size w).alloc (Nat.le_refl _) (.cells #[.int .i64 op,.int .i64 A,.int .i64 B,.int .u64 K,.slice P n c] 33))
     have HI:=hid (InAt.at_ w w.heap.size op A B K (.slice P n c) 33 rfl)
     clear hK
     go_enter Tryz.func29,Tryz.ntmps29
     go_wp2_with fail
     refine(HK.out _).mono ?_
     rintro en w2 ⟨rfl,hb2⟩
     have HI:=hid (HI.out.keep hb2)
     have HW:=hid (HA1.out.trans (hb2.mono HA1.out.size))
     clear hb2
     obtain⟨i0,ic0,ic1,ic2,ic3,ic4,if0,if1,if2,if3,if4⟩:=HI.out
     go_wp2_with fail
     all_goals exact bodyPost_ret (v:=.bool false) (by simp[results,Tryz.results29,go_sem]) rfl ⟨rfl,HW.out⟩
    | false=>
     obtain⟨rfl,rfl,rfl⟩:c8=true/\c9=true/\bK=true:=by revert h;cases c8 <;> cases c9 <;> cases bK <;> simp
     have HK:=hid hK
     have HA1:=hid ((Below.refl w.heap.size w).alloc (Nat.le_refl _) (.cells #[.int .i64 op,.int .i64 A,.int .i64 B,.int .u64 K,.slice P n c] 33))
     have HI:=hid (InAt.at_ w w.heap.size op A B K (.slice P n c) 33 rfl)
     clear hK
     go_enter Tryz.func29,Tryz.ntmps29
     go_wp2_with fail
     refine(HK.out _).mono ?_
     rintro en w2 ⟨rfl,hb2⟩
     have HI:=hid (HI.out.keep hb2)
     have HW:=hid (HA1.out.trans (hb2.mono HA1.out.size))
     clear hb2
     obtain⟨i0,ic0,ic1,ic2,ic3,ic4,if0,if1,if2,if3,if4⟩:=HI.out
     go_wp2_with fail
     all_goals exact bodyPost_ret (v:=.bool false) (by simp[results,Tryz.results29,go_sem]) rfl ⟨rfl,HW.out⟩
   | false=>
    obtain⟨rfl,rfl,rfl⟩:c8=true/\c9=true/\bK=true:=by revert h;cases c8 <;> cases c9 <;> cases bK <;> simp
    have HK:=hid hK
    have HA1:=hid ((Below.refl w.heap.size w).alloc (Nat.le_refl _) (.cells #[.int .i64 op,.int .i64 A,.int .i64 B,.int .u64 K,.slice P n c] 33))
    have HI:=hid (InAt.at_ w w.heap.size op A B K (.slice P n c) 33 rfl)
    clear hK
    go_enter Tryz.func29,Tryz.ntmps29
    go_wp2_with fail
    refine(HK.out _).mono ?_
    rintro en w2 ⟨rfl,hb2⟩
    have HI:=hid (HI.out.keep hb2)
    have HW:=hid (HA1.out.trans (hb2.mono HA1.out.size))
    clear hb2
    obtain⟨i0,ic0,ic1,ic2,ic3,ic4,if0,if1,if2,if3,if4⟩:=HI.out
    go_wp2_with fail
    all_goals exact bodyPost_ret (v:=.bool false) (by simp[results,Tryz.results29,go_sem]) rfl ⟨rfl,HW.out⟩
 | false=>
  cases c6 with
  | true=>
   cases bB with
   | true=>
    have HK:=hid hK
    have HA1:=hid ((Below.refl w.heap.size w).alloc (Nat.le_refl _) (.cells #[.int .i64 op,.int .i64 A,.int .i64 B,.int .u64 K,.slice P n c] 33))
    have HI:=hid (InAt.at_ w w.heap.size op A B K (.slice P n c) 33 rfl)
    clear hK
    go_enter Tryz.func29,Tryz.ntmps29
    go_wp2_with fail
    refine(HK.out _).mono ?_
    rintro en w2 ⟨rfl,hb2⟩
    have HI:=hid (HI.out.keep hb2)
    have HW:=hid (HA1.out.trans (hb2.mono HA1.out.size))
    clear hb2
    obtain⟨i0,ic0,ic1,ic2,ic3,ic4,if0,if1,if2,if3,if4⟩:=HI.out
    go_wp2_with fail
    all_goals exact bodyPost_ret (v:=.bool false) (by simp[results,Tryz.results29,go_sem]) rfl ⟨rfl,HW.out⟩
   | false=>
    obtain⟨rfl,rfl,rfl⟩:c8=true/\c9=true/\bK=true:=by revert h;cases c8 <;> cases c9 <;> cases bK <;> simp
    have HK:=hid hK
    have HA1:=hid ((Below.refl w.heap.size w).alloc (Nat.le_refl _) (.cells #[.int .i64 op,.int .i64 A,.int .i64 B,.int .u64 K,.slice P n c] 33))
    have HI:=hid (InAt.at_ w w.heap.size op A B K (.slice P n c) 33 rfl)
    clear hK
    go_enter Tryz.func29,Tryz.ntmps29
    go_wp2_with fail
    refine(HK.out _).mono ?_
    rintro en w2 ⟨rfl,hb2⟩
    have HI:=hid (HI.out.keep hb2)
    have HW:=hid (HA1.out.trans (hb2.mono HA1.out.size))
    clear hb2
    obtain⟨i0,ic0,ic1,ic2,ic3,ic4,if0,if1,if2,if3,if4⟩:=HI.out
    go_wp2_with fail
    all_goals exact bodyPost_ret (v:=.bool false) (by simp[results,Tryz.results29,go_sem]) rfl ⟨rfl,HW.out⟩
  | false=>
   obtain⟨rfl,rfl,rfl⟩:c8=true/\c9=true/\bK=true:=by revert h;cases c8 <;> cases c9 <;> cases bK <;> simp
   have HK:=hid hK
   have HA1:=hid ((Below.refl w.heap.size w).alloc (Nat.le_refl _) (.cells #[.int .i64 op,.int .i64 A,.int .i64 B,.int .u64 K,.slice P n c] 33))
   have HI:=hid (InAt.at_ w w.heap.size op A B K (.slice P n c) 33 rfl)
   clear hK
   go_enter Tryz.func29,Tryz.ntmps29
   go_wp2_with fail
   refine(HK.out _).mono ?_
   rintro en w2 ⟨rfl,hb2⟩
   have HI:=hid (HI.out.keep hb2)
   have HW:=hid (HA1.out.trans (hb2.mono HA1.out.size))
   clear hb2
   obtain⟨i0,ic0,ic1,ic2,ic3,ic4,if0,if1,if2,if3,if4⟩:=HI.out
   go_wp2_with fail
   all_goals exact bodyPost_ret (v:=.bool false) (by simp[results,Tryz.results29,go_sem]) rfl ⟨rfl,HW.out⟩
end Go.Proofs.YtlappkflnlbfcaaGreatDoor.Ins
end
