/- InsSaneB, InsSaneC, InsSane. -/
import Derived.Test.YtlappkflnlbfcaaGreatDoorPkInsSaneA
section
namespace Go.Proofs.YtlappkflnlbfcaaGreatDoor.Ins
open Lib (hid)
open Go.RowKit Ints Typ
set_option maxRecDepth 100000
set_option maxHeartbeats 4000000
theorem rsane_0 (op A B K:Int)(P:Option Addr)(c:Nat)(w:World)(bA bA2:Bool)
  (hK:∀W,Calls Tryz.prog 63 #[.int .i64 op] W fun en w'=>en= .returned (.int .i64 0)/\Below W.heap.size W w')
  (q1:decide (0<=A)=bA) (q2:decide (A<=4294967295)=bA2) (qB:(B != 0)=false) (qK:(K != 0)=false) :
  Calls Tryz.prog 29 #[.agg #[.int .i64 op,.int .i64 A,.int .i64 B,.int .u64 K,.slice P 0 c]] w fun en w'=>en= .returned (.bool false)/\Below w.heap.size w w':=by
 cases bA with
 | true=>
  have HK:=hid hK
  have HA1:=hid ((Below.refl w.heap.size w).alloc (Nat.le_refl _) (.cells #[.int .i64 op,.int .i64 A,.int .i64 B,.int .u64 K,.slice P 0 c] 33))
  have HI:=hid (InAt.at_ w w.heap.size op A B K (.slice P 0 c) 33 rfl)
  clear hK
  go_enter Tryz.func29,Tryz.ntmps29
  go_wp2_with fail
  refine(HK.out _).mono ?_
  rintro en w2 ⟨rfl,hb2⟩
  have HI:=hid (HI.out.keep hb2)
  have HW:=hid (HA1.out.trans (hb2.mono HA1.out.size))
  clear hb2
  obtain⟨i0,ic0,ic1,ic2,ic3,ic4,if0,if1,if2,if3,if4⟩:=HI.out
  go_wp2_with fail
  go_loopw [4,5] (fun u' j' wr=>u'= .bool bA2/\j'= .int .i64 0/\wr=w2) (fun _ _ _=>0)
  case atStart=>exact ⟨rfl,rfl,rfl⟩
  case round=>
   obtain⟨rfl,rfl,rfl⟩:=hrel
   go_wp2_with fail
   all_goals exact bodyPost_ret (v:=.bool false) (by simp[results,Tryz.results29,go_sem]) rfl ⟨rfl,HW.out⟩
 | false=>
  have HK:=hid hK
  have HA1:=hid ((Below.refl w.heap.size w).alloc (Nat.le_refl _) (.cells #[.int .i64 op,.int .i64 A,.int .i64 B,.int .u64 K,.slice P 0 c] 33))
  have HI:=hid (InAt.at_ w w.heap.size op A B K (.slice P 0 c) 33 rfl)
  clear hK
  go_enter Tryz.func29,Tryz.ntmps29
  go_wp2_with fail
  refine(HK.out _).mono ?_
  rintro en w2 ⟨rfl,hb2⟩
  have HI:=hid (HI.out.keep hb2)
  have HW:=hid (HA1.out.trans (hb2.mono HA1.out.size))
  clear hb2
  obtain⟨i0,ic0,ic1,ic2,ic3,ic4,if0,if1,if2,if3,if4⟩:=HI.out
  go_wp2_with fail
  go_loopw [4,5] (fun u' j' wr=>u'= .bool false/\j'= .int .i64 0/\wr=w2) (fun _ _ _=>0)
  case atStart=>exact ⟨rfl,rfl,rfl⟩
  case round=>
   obtain⟨rfl,rfl,rfl⟩:=hrel
   go_wp2_with fail
   all_goals exact bodyPost_ret (v:=.bool false) (by simp[results,Tryz.results29,go_sem]) rfl ⟨rfl,HW.out⟩
theorem rsane_1 (op A B K:Int)(P:Option Addr)(c:Nat)(w:World)(bA bA2 z:Bool)
  (hK:∀W,Calls Tryz.prog 63 #[.int .i64 op] W fun en w'=>en= .returned (.int .i64 1)/\Below W.heap.size W w')
  (q1:decide (0<=A)=bA) (q2:decide (A<=4294967295)=bA2) (qB:(B != 0)=false) (qK:(K != 0)=false) (qz:(A == 0)=z) :
  Calls Tryz.prog 29 #[.agg #[.int .i64 op,.int .i64 A,.int .i64 B,.int .u64 K,.slice P 0 c]] w fun en w'=>en= .returned (.bool z)/\Below w.heap.size w w':=by
 cases bA with
 | true=>
  have HK:=hid hK
  have HA1:=hid ((Below.refl w.heap.size w).alloc (Nat.le_refl _) (.cells #[.int .i64 op,.int .i64 A,.int .i64 B,.int .u64 K,.slice P 0 c] 33))
  have HI:=hid (InAt.at_ w w.heap.size op A B K (.slice P 0 c) 33 rfl)
  clear hK
  go_enter Tryz.func29,Tryz.ntmps29
  go_wp2_with fail
  refine(HK.out _).mono ?_
  rintro en w2 ⟨rfl,hb2⟩
  have HI:=hid (HI.out.keep hb2)
  have HW:=hid (HA1.out.trans (hb2.mono HA1.out.size))
  clear hb2
  obtain⟨i0,ic0,ic1,ic2,ic3,ic4,if0,if1,if2,if3,if4⟩:=HI.out
  go_wp2_with fail
  go_loopw [4,5] (fun u' j' wr=>u'= .bool bA2/\j'= .int .i64 0/\wr=w2) (fun _ _ _=>0)
  case atStart=>exact ⟨rfl,rfl,rfl⟩
  case round=>
   obtain⟨rfl,rfl,rfl⟩:=hrel
   go_wp2_with fail
   all_goals exact bodyPost_ret (v:=.bool _) (by simp[results,Tryz.results29,go_sem]) rfl ⟨rfl,HW.out⟩
 | false=>
  have HK:=hid hK
  have HA1:=hid ((Below.refl w.heap.size w).alloc (Nat.le_refl _) (.cells #[.int .i64 op,.int .i64 A,.int .i64 B,.int .u64 K,.slice P 0 c] 33))
  have HI:=hid (InAt.at_ w w.heap.size op A B K (.slice P 0 c) 33 rfl)
  clear hK
  go_enter Tryz.func29,Tryz.ntmps29
  go_wp2_with fail
  refine(HK.out _).mono ?_
  rintro en w2 ⟨rfl,hb2⟩
  have HI:=hid (HI.out.keep hb2)
  have HW:=hid (HA1.out.trans (hb2.mono HA1.out.size))
  clear hb2
  obtain⟨i0,ic0,ic1,ic2,ic3,ic4,if0,if1,if2,if3,if4⟩:=HI.out
  go_wp2_with fail
  go_loopw [4,5] (fun u' j' wr=>u'= .bool false/\j'= .int .i64 0/\wr=w2) (fun _ _ _=>0)
  case atStart=>exact ⟨rfl,rfl,rfl⟩
  case round=>
   obtain⟨rfl,rfl,rfl⟩:=hrel
   go_wp2_with fail
   all_goals exact bodyPost_ret (v:=.bool _) (by simp[results,Tryz.results29,go_sem]) rfl ⟨rfl,HW.out⟩
theorem rsane_7 (op A B K:Int)(P:Option Addr)(c:Nat)(w:World)(bA bA2 z:Bool)
  (hK:∀W,Calls Tryz.prog 63 #[.int .i64 op] W fun en w'=>en= .returned (.int .i64 7)/\Below W.heap.size W w')
  (q1:decide (0<=A)=bA) (q2:decide (A<=4294967295)=bA2) (qB:(B != 0)=false) (qK:(K != 0)=false) (qz:(A == 0)=z) :
  Calls Tryz.prog 29 #[.agg #[.int .i64 op,.int .i64 A,.int .i64 B,.int .u64 K,.slice P 0 c]] w fun en w'=>en= .returned (.bool z)/\Below w.heap.size w w':=by
 cases bA with
 | true=>
  have HK:=hid hK
  have HA1:=hid ((Below.refl w.heap.size w).alloc (Nat.le_refl _) (.cells #[.int .i64 op,.int .i64 A,.int .i64 B,.int .u64 K,.slice P 0 c] 33))
  have HI:=hid (InAt.at_ w w.heap.size op A B K (.slice P 0 c) 33 rfl)
  clear hK
  go_enter Tryz.func29,Tryz.ntmps29
  go_wp2_with fail
  refine(HK.out _).mono ?_
  rintro en w2 ⟨rfl,hb2⟩
  have HI:=hid (HI.out.keep hb2)
  have HW:=hid (HA1.out.trans (hb2.mono HA1.out.size))
  clear hb2
  obtain⟨i0,ic0,ic1,ic2,ic3,ic4,if0,if1,if2,if3,if4⟩:=HI.out
  go_wp2_with fail
  go_loopw [4,5] (fun u' j' wr=>u'= .bool bA2/\j'= .int .i64 0/\wr=w2) (fun _ _ _=>0)
  case atStart=>exact ⟨rfl,rfl,rfl⟩
  case round=>
   obtain⟨rfl,rfl,rfl⟩:=hrel
   go_wp2_with fail
   all_goals exact bodyPost_ret (v:=.bool _) (by simp[results,Tryz.results29,go_sem]) rfl ⟨rfl,HW.out⟩
 | false=>
  have HK:=hid hK
  have HA1:=hid ((Below.refl w.heap.size w).alloc (Nat.le_refl _) (.cells #[.int .i64 op,.int .i64 A,.int .i64 B,.int .u64 K,.slice P 0 c] 33))
  have HI:=hid (InAt.at_ w w.heap.size op A B K (.slice P 0 c) 33 rfl)
  clear hK
  go_enter Tryz.func29,Tryz.ntmps29
  go_wp2_with fail
  refine(HK.out _).mono ?_
  rintro en w2 ⟨rfl,hb2⟩
  have HI:=hid (HI.out.keep hb2)
  have HW:=hid (HA1.out.trans (hb2.mono HA1.out.size))
  clear hb2
  obtain⟨i0,ic0,ic1,ic2,ic3,ic4,if0,if1,if2,if3,if4⟩:=HI.out
  go_wp2_with fail
  go_loopw [4,5] (fun u' j' wr=>u'= .bool false/\j'= .int .i64 0/\wr=w2) (fun _ _ _=>0)
  case atStart=>exact ⟨rfl,rfl,rfl⟩
  case round=>
   obtain⟨rfl,rfl,rfl⟩:=hrel
   go_wp2_with fail
   all_goals exact bodyPost_ret (v:=.bool _) (by simp[results,Tryz.results29,go_sem]) rfl ⟨rfl,HW.out⟩
theorem rsane_9 (op A B K:Int)(P:Option Addr)(c:Nat)(w:World)(bA bA2 z:Bool)
  (hK:∀W,Calls Tryz.prog 63 #[.int .i64 op] W fun en w'=>en= .returned (.int .i64 9)/\Below W.heap.size W w')
  (q1:decide (0<=A)=bA) (q2:decide (A<=4294967295)=bA2) (qB:(B != 0)=false) (qz:(A == 0)=z) :
  Calls Tryz.prog 29 #[.agg #[.int .i64 op,.int .i64 A,.int .i64 B,.int .u64 K,.slice P 0 c]] w fun en w'=>en= .returned (.bool z)/\Below w.heap.size w w':=by
 cases bA with
 | true=>
  have HK:=hid hK
  have HA1:=hid ((Below.refl w.heap.size w).alloc (Nat.le_refl _) (.cells #[.int .i64 op,.int .i64 A,.int .i64 B,.int .u64 K,.slice P 0 c] 33))
  have HI:=hid (InAt.at_ w w.heap.size op A B K (.slice P 0 c) 33 rfl)
  clear hK
  go_enter Tryz.func29,Tryz.ntmps29
  go_wp2_with fail
  refine(HK.out _).mono ?_
  rintro en w2 ⟨rfl,hb2⟩
  have HI:=hid (HI.out.keep hb2)
  have HW:=hid (HA1.out.trans (hb2.mono HA1.out.size))
  clear hb2
  obtain⟨i0,ic0,ic1,ic2,ic3,ic4,if0,if1,if2,if3,if4⟩:=HI.out
  go_wp2_with fail
  go_loopw [4,5] (fun u' j' wr=>u'= .bool bA2/\j'= .int .i64 0/\wr=w2) (fun _ _ _=>0)
  case atStart=>exact ⟨rfl,rfl,rfl⟩
  case round=>
   obtain⟨rfl,rfl,rfl⟩:=hrel
   go_wp2_with fail
   all_goals exact bodyPost_ret (v:=.bool _) (by simp[results,Tryz.results29,go_sem]) rfl ⟨rfl,HW.out⟩
 | false=>
  have HK:=hid hK
  have HA1:=hid ((Below.refl w.heap.size w).alloc (Nat.le_refl _) (.cells #[.int .i64 op,.int .i64 A,.int .i64 B,.int .u64 K,.slice P 0 c] 33))
  have HI:=hid (InAt.at_ w w.heap.size op A B K (.slice P 0 c) 33 rfl)
  clear hK
  go_enter Tryz.func29,Tryz.ntmps29
  go_wp2_with fail
  refine(HK.out _).mono ?_
  rintro en w2 ⟨rfl,hb2⟩
  have HI:=hid (HI.out.keep hb2)
  have HW:=hid (HA1.out.trans (hb2.mono HA1.out.size))
  clear hb2
  obtain⟨i0,ic0,ic1,ic2,ic3,ic4,if0,if1,if2,if3,if4⟩:=HI.out
  go_wp2_with fail
  go_loopw [4,5] (fun u' j' wr=>u'= .bool false/\j'= .int .i64 0/\wr=w2) (fun _ _ _=>0)
  case atStart=>exact ⟨rfl,rfl,rfl⟩
  case round=>
   obtain⟨rfl,rfl,rfl⟩:=hrel
   go_wp2_with fail
   all_goals exact bodyPost_ret (v:=.bool _) (by simp[results,Tryz.results29,go_sem]) rfl ⟨rfl,HW.out⟩
theorem rsane_3 (op A B K:Int)(P:Option Addr)(c:Nat)(w:World)(bA bA2:Bool)
  (hK:∀W,Calls Tryz.prog 63 #[.int .i64 op] W fun en w'=>en= .returned (.int .i64 3)/\Below W.heap.size W w')
  (q1:decide (0<=A)=bA) (q2:decide (A<=4294967295)=bA2) (qB:(B != 0)=false) (qK:(K != 0)=false) :
  Calls Tryz.prog 29 #[.agg #[.int .i64 op,.int .i64 A,.int .i64 B,.int .u64 K,.slice P 0 c]] w fun en w'=>en= .returned (.bool (bA && bA2))/\Below w.heap.size w w':=by
 cases bA with
 | true=>
  have HK:=hid hK
  have HA1:=hid ((Below.refl w.heap.size w).alloc (Nat.le_refl _) (.cells #[.int .i64 op,.int .i64 A,.int .i64 B,.int .u64 K,.slice P 0 c] 33))
  have HI:=hid (InAt.at_ w w.heap.size op A B K (.slice P 0 c) 33 rfl)
  clear hK
  go_enter Tryz.func29,Tryz.ntmps29
  go_wp2_with fail
  refine(HK.out _).mono ?_
  rintro en w2 ⟨rfl,hb2⟩
  have HI:=hid (HI.out.keep hb2)
  have HW:=hid (HA1.out.trans (hb2.mono HA1.out.size))
  clear hb2
  obtain⟨i0,ic0,ic1,ic2,ic3,ic4,if0,if1,if2,if3,if4⟩:=HI.out
  go_wp2_with fail
  go_loopw [4,5] (fun u' j' wr=>u'= .bool bA2/\j'= .int .i64 0/\wr=w2) (fun _ _ _=>0)
  case atStart=>exact ⟨rfl,rfl,rfl⟩
  case round=>
   obtain⟨rfl,rfl,rfl⟩:=hrel
   go_wp2_with fail
   all_goals exact bodyPost_ret (v:=.bool (true && bA2)) (by simp[results,Tryz.results29,go_sem]) rfl ⟨rfl,HW.out⟩
 | false=>
  have HK:=hid hK
  have HA1:=hid ((Below.refl w.heap.size w).alloc (Nat.le_refl _) (.cells #[.int .i64 op,.int .i64 A,.int .i64 B,.int .u64 K,.slice P 0 c] 33))
  have HI:=hid (InAt.at_ w w.heap.size op A B K (.slice P 0 c) 33 rfl)
  clear hK
  go_enter Tryz.func29,Tryz.ntmps29
  go_wp2_with fail
  refine(HK.out _).mono ?_
  rintro en w2 ⟨rfl,hb2⟩
  have HI:=hid (HI.out.keep hb2)
  have HW:=hid (HA1.out.trans (hb2.mono HA1.out.size))
  clear hb2
  obtain⟨i0,ic0,ic1,ic2,ic3,ic4,if0,if1,if2,if3,if4⟩:=HI.out
  go_wp2_with fail
  go_loopw [4,5] (fun u' j' wr=>u'= .bool false/\j'= .int .i64 0/\wr=w2) (fun _ _ _=>0)
  case atStart=>exact ⟨rfl,rfl,rfl⟩
  case round=>
   obtain⟨rfl,rfl,rfl⟩:=hrel
   go_wp2_with fail
   all_goals exact bodyPost_ret (v:=.bool (false && bA2)) (by simp[results,Tryz.results29,go_sem]) rfl ⟨rfl,HW.out⟩
theorem rsane_5 (op A B K:Int)(P:Option Addr)(c:Nat)(w:World)(bA bA2:Bool)
  (hK:∀W,Calls Tryz.prog 63 #[.int .i64 op] W fun en w'=>en= .returned (.int .i64 5)/\Below W.heap.size W w')
  (q1:decide (0<=A)=bA) (q2:decide (A<=4294967295)=bA2) (qB:(B != 0)=false) (qK:(K != 0)=false) :
  Calls Tryz.prog 29 #[.agg #[.int .i64 op,.int .i64 A,.int .i64 B,.int .u64 K,.slice P 0 c]] w fun en w'=>en= .returned (.bool (bA && bA2))/\Below w.heap.size w w':=by
 cases bA with
 | true=>
  have HK:=hid hK
  have HA1:=hid ((Below.refl w.heap.size w).alloc (Nat.le_refl _) (.cells #[.int .i64 op,.int .i64 A,.int .i64 B,.int .u64 K,.slice P 0 c] 33))
  have HI:=hid (InAt.at_ w w.heap.size op A B K (.slice P 0 c) 33 rfl)
  clear hK
  go_enter Tryz.func29,Tryz.ntmps29
  go_wp2_with fail
  refine(HK.out _).mono ?_
  rintro en w2 ⟨rfl,hb2⟩
  have HI:=hid (HI.out.keep hb2)
  have HW:=hid (HA1.out.trans (hb2.mono HA1.out.size))
  clear hb2
  obtain⟨i0,ic0,ic1,ic2,ic3,ic4,if0,if1,if2,if3,if4⟩:=HI.out
  go_wp2_with fail
  go_loopw [4,5] (fun u' j' wr=>u'= .bool bA2/\j'= .int .i64 0/\wr=w2) (fun _ _ _=>0)
  case atStart=>exact ⟨rfl,rfl,rfl⟩
  case round=>
   obtain⟨rfl,rfl,rfl⟩:=hrel
   go_wp2_with fail
   all_goals exact bodyPost_ret (v:=.bool (true && bA2)) (by simp[results,Tryz.results29,go_sem]) rfl ⟨rfl,HW.out⟩
 | false=>
  have HK:=hid hK
  have HA1:=hid ((Below.refl w.heap.size w).alloc (Nat.le_refl _) (.cells #[.int .i64 op,.int .i64 A,.int .i64 B,.int .u64 K,.slice P 0 c] 33))
  have HI:=hid (InAt.at_ w w.heap.size op A B K (.slice P 0 c) 33 rfl)
  clear hK
  go_enter Tryz.func29,Tryz.ntmps29
  go_wp2_with fail
  refine(HK.out _).mono ?_
  rintro en w2 ⟨rfl,hb2⟩
  have HI:=hid (HI.out.keep hb2)
  have HW:=hid (HA1.out.trans (hb2.mono HA1.out.size))
  clear hb2
  obtain⟨i0,ic0,ic1,ic2,ic3,ic4,if0,if1,if2,if3,if4⟩:=HI.out
  go_wp2_with fail
  go_loopw [4,5] (fun u' j' wr=>u'= .bool false/\j'= .int .i64 0/\wr=w2) (fun _ _ _=>0)
  case atStart=>exact ⟨rfl,rfl,rfl⟩
  case round=>
   obtain⟨rfl,rfl,rfl⟩:=hrel
   go_wp2_with fail
   all_goals exact bodyPost_ret (v:=.bool (false && bA2)) (by simp[results,Tryz.results29,go_sem]) rfl ⟨rfl,HW.out⟩
theorem rsane_2 (op A B K:Int)(P:Option Addr)(c:Nat)(w:World)(bA bA2 z0 z1 z2:Bool)
  (hK:∀W,Calls Tryz.prog 63 #[.int .i64 op] W fun en w'=>en= .returned (.int .i64 2)/\Below W.heap.size W w')
  (q1:decide (0<=A)=bA) (q2:decide (A<=4294967295)=bA2) (qB:(B != 0)=false) (qK:(K != 0)=false) (qz0:(A == 0)=z0) (qz1:(A == 126)=z1) (qz2:(A == 127)=z2) :
  Calls Tryz.prog 29 #[.agg #[.int .i64 op,.int .i64 A,.int .i64 B,.int .u64 K,.slice P 0 c]] w fun en w'=>en= .returned (.bool (z0 || z1 || z2))/\Below w.heap.size w w':=by
 cases bA with
 | true=>
  have HK:=hid hK
  have HA1:=hid ((Below.refl w.heap.size w).alloc (Nat.le_refl _) (.cells #[.int .i64 op,.int .i64 A,.int .i64 B,.int .u64 K,.slice P 0 c] 33))
  have HI:=hid (InAt.at_ w w.heap.size op A B K (.slice P 0 c) 33 rfl)
  clear hK
  go_enter Tryz.func29,Tryz.ntmps29
  go_wp2_with fail
  refine(HK.out _).mono ?_
  rintro en w2 ⟨rfl,hb2⟩
  have HI:=hid (HI.out.keep hb2)
  have HW:=hid (HA1.out.trans (hb2.mono HA1.out.size))
  clear hb2
  obtain⟨i0,ic0,ic1,ic2,ic3,ic4,if0,if1,if2,if3,if4⟩:=HI.out
  go_wp2_with fail
  go_loopw [4,5] (fun u' j' wr=>u'= .bool bA2/\j'= .int .i64 0/\wr=w2) (fun _ _ _=>0)
  case atStart=>exact ⟨rfl,rfl,rfl⟩
  case round=>
   obtain⟨rfl,rfl,rfl⟩:=hrel
   cases z0 <;> cases z1 <;> cases z2 <;> (
    go_wp2_with fail
    all_goals exact bodyPost_ret (v:=.bool _) (by simp[results,Tryz.results29,go_sem]) rfl ⟨rfl,HW.out⟩)
 | false=>
  have HK:=hid hK
  have HA1:=hid ((Below.refl w.heap.size w).alloc (Nat.le_refl _) (.cells #[.int .i64 op,.int .i64 A,.int .i64 B,.int .u64 K,.slice P 0 c] 33))
  have HI:=hid (InAt.at_ w w.heap.size op A B K (.slice P 0 c) 33 rfl)
  clear hK
  go_enter Tryz.func29,Tryz.ntmps29
  go_wp2_with fail
  refine(HK.out _).mono ?_
  rintro en w2 ⟨rfl,hb2⟩
  have HI:=hid (HI.out.keep hb2)
  have HW:=hid (HA1.out.trans (hb2.mono HA1.out.size))
  clear hb2
  obtain⟨i0,ic0,ic1,ic2,ic3,ic4,if0,if1,if2,if3,if4⟩:=HI.out
  go_wp2_with fail
  go_loopw [4,5] (fun u' j' wr=>u'= .bool false/\j'= .int .i64 0/\wr=w2) (fun _ _ _=>0)
  case atStart=>exact ⟨rfl,rfl,rfl⟩
  case round=>
   obtain⟨rfl,rfl,rfl⟩:=hrel
   cases z0 <;> cases z1 <;> cases z2 <;> (
    go_wp2_with fail
    all_goals exact bodyPost_ret (v:=.bool _) (by simp[results,Tryz.results29,go_sem]) rfl ⟨rfl,HW.out⟩)
theorem rsane_6 (op A B K:Int)(P:Option Addr)(c:Nat)(w:World)(bA bA2 z0 z1:Bool)
  (hK:∀W,Calls Tryz.prog 63 #[.int .i64 op] W fun en w'=>en= .returned (.int .i64 6)/\Below W.heap.size W w')
  (q1:decide (0<=A)=bA) (q2:decide (A<=4294967295)=bA2) (qK:(K != 0)=false) (qz0:decide (0<=B)=z0) (qz1:decide (B<=4294967295)=z1) :
  Calls Tryz.prog 29 #[.agg #[.int .i64 op,.int .i64 A,.int .i64 B,.int .u64 K,.slice P 0 c]] w fun en w'=>en= .returned (.bool (bA && bA2 && (z0 && z1)))/\Below w.heap.size w w':=by
 cases bA with
 | true=>
  have HK:=hid hK
  have HA1:=hid ((Below.refl w.heap.size w).alloc (Nat.le_refl _) (.cells #[.int .i64 op,.int .i64 A,.int .i64 B,.int .u64 K,.slice P 0 c] 33))
  have HI:=hid (InAt.at_ w w.heap.size op A B K (.slice P 0 c) 33 rfl)
  clear hK
  go_enter Tryz.func29,Tryz.ntmps29
  go_wp2_with fail
  refine(HK.out _).mono ?_
  rintro en w2 ⟨rfl,hb2⟩
  have HI:=hid (HI.out.keep hb2)
  have HW:=hid (HA1.out.trans (hb2.mono HA1.out.size))
  clear hb2
  obtain⟨i0,ic0,ic1,ic2,ic3,ic4,if0,if1,if2,if3,if4⟩:=HI.out
  go_wp2_with fail
  go_loopw [4,5] (fun u' j' wr=>u'= .bool bA2/\j'= .int .i64 0/\wr=w2) (fun _ _ _=>0)
  case atStart=>exact ⟨rfl,rfl,rfl⟩
  case round=>
   obtain⟨rfl,rfl,rfl⟩:=hrel
   cases bA2 <;> cases z0 <;> cases z1 <;> (
    go_wp2_with fail
    all_goals exact bodyPost_ret (v:=.bool _) (by simp[results,Tryz.results29,go_sem]) rfl ⟨rfl,HW.out⟩)
 | false=>
  have HK:=hid hK
  have HA1:=hid ((Below.refl w.heap.size w).alloc (Nat.le_refl _) (.cells #[.int .i64 op,.int .i64 A,.int .i64 B,.int .u64 K,.slice P 0 c] 33))
  have HI:=hid (InAt.at_ w w.heap.size op A B K (.slice P 0 c) 33 rfl)
  clear hK
  go_enter Tryz.func29,Tryz.ntmps29
  go_wp2_with fail
  refine(HK.out _).mono ?_
  rintro en w2 ⟨rfl,hb2⟩
  have HI:=hid (HI.out.keep hb2)
  have HW:=hid (HA1.out.trans (hb2.mono HA1.out.size))
  clear hb2
  obtain⟨i0,ic0,ic1,ic2,ic3,ic4,if0,if1,if2,if3,if4⟩:=HI.out
  go_wp2_with fail
  go_loopw [4,5] (fun u' j' wr=>u'= .bool false/\j'= .int .i64 0/\wr=w2) (fun _ _ _=>0)
  case atStart=>exact ⟨rfl,rfl,rfl⟩
  case round=>
   obtain⟨rfl,rfl,rfl⟩:=hrel
   cases z0 <;> cases z1 <;> (
    go_wp2_with fail
    all_goals exact bodyPost_ret (v:=.bool _) (by simp[results,Tryz.results29,go_sem]) rfl ⟨rfl,HW.out⟩)
theorem rsane_8 (op A B K:Int)(P:Option Addr)(c:Nat)(w:World)(bA bA2 z0 z1:Bool)
  (hK:∀W,Calls Tryz.prog 63 #[.int .i64 op] W fun en w'=>en= .returned (.int .i64 8)/\Below W.heap.size W w')
  (q1:decide (0<=A)=bA) (q2:decide (A<=4294967295)=bA2) (qB:(B != 0)=false) (qz0:(A == 0)=z0) (qz1:decide (K<4294967296)=z1) :
  Calls Tryz.prog 29 #[.agg #[.int .i64 op,.int .i64 A,.int .i64 B,.int .u64 K,.slice P 0 c]] w fun en w'=>en= .returned (.bool (z0 && z1))/\Below w.heap.size w w':=by
 cases bA with
 | true=>
  have HK:=hid hK
  have HA1:=hid ((Below.refl w.heap.size w).alloc (Nat.le_refl _) (.cells #[.int .i64 op,.int .i64 A,.int .i64 B,.int .u64 K,.slice P 0 c] 33))
  have HI:=hid (InAt.at_ w w.heap.size op A B K (.slice P 0 c) 33 rfl)
  clear hK
  go_enter Tryz.func29,Tryz.ntmps29
  go_wp2_with fail
  refine(HK.out _).mono ?_
  rintro en w2 ⟨rfl,hb2⟩
  have HI:=hid (HI.out.keep hb2)
  have HW:=hid (HA1.out.trans (hb2.mono HA1.out.size))
  clear hb2
  obtain⟨i0,ic0,ic1,ic2,ic3,ic4,if0,if1,if2,if3,if4⟩:=HI.out
  go_wp2_with fail
  go_loopw [4,5] (fun u' j' wr=>u'= .bool bA2/\j'= .int .i64 0/\wr=w2) (fun _ _ _=>0)
  case atStart=>exact ⟨rfl,rfl,rfl⟩
  case round=>
   obtain⟨rfl,rfl,rfl⟩:=hrel
   cases z0 <;> cases z1 <;> (
    go_wp2_with fail
    all_goals exact bodyPost_ret (v:=.bool _) (by simp[results,Tryz.results29,go_sem]) rfl ⟨rfl,HW.out⟩)
 | false=>
  have HK:=hid hK
  have HA1:=hid ((Below.refl w.heap.size w).alloc (Nat.le_refl _) (.cells #[.int .i64 op,.int .i64 A,.int .i64 B,.int .u64 K,.slice P 0 c] 33))
  have HI:=hid (InAt.at_ w w.heap.size op A B K (.slice P 0 c) 33 rfl)
  clear hK
  go_enter Tryz.func29,Tryz.ntmps29
  go_wp2_with fail
  refine(HK.out _).mono ?_
  rintro en w2 ⟨rfl,hb2⟩
  have HI:=hid (HI.out.keep hb2)
  have HW:=hid (HA1.out.trans (hb2.mono HA1.out.size))
  clear hb2
  obtain⟨i0,ic0,ic1,ic2,ic3,ic4,if0,if1,if2,if3,if4⟩:=HI.out
  go_wp2_with fail
  go_loopw [4,5] (fun u' j' wr=>u'= .bool false/\j'= .int .i64 0/\wr=w2) (fun _ _ _=>0)
  case atStart=>exact ⟨rfl,rfl,rfl⟩
  case round=>
   obtain⟨rfl,rfl,rfl⟩:=hrel
   cases z0 <;> cases z1 <;> (
    go_wp2_with fail
    all_goals exact bodyPost_ret (v:=.bool _) (by simp[results,Tryz.results29,go_sem]) rfl ⟨rfl,HW.out⟩)
theorem all_take {l:List Int}{k:Nat}(h:k<l.length):(l.take (k+1)).all okN=((l.take k).all okN && okN (l.getD k 0)):=by
 rw[List.take_add_one,List.all_append,List.getD_eq_getElem?_getD,List.getElem?_eq_getElem h]
 simp
theorem rsane_4 (op A B K:Int)(P:Option Addr)(n c:Nat)(l:List Int)(w:World)(bA bA2 b64:Bool)(hn:l.length=n)(hx:SlI w (.slice P n c) l)
  (hK:∀W,Calls Tryz.prog 63 #[.int .i64 op] W fun en w'=>en= .returned (.int .i64 4)/\Below W.heap.size W w')
  (q2:(B != 0)=false) (q3:(K != 0)=false) (q4:decide (0<=A)=bA) (q5:decide (A<=4294967295)=bA2) (q6:decide ((n:Int)<=64)=b64) :
  Calls Tryz.prog 29 #[.agg #[.int .i64 op,.int .i64 A,.int .i64 B,.int .u64 K,.slice P n c]] w fun en w'=>en= .returned (.bool (bA && bA2 && l.all okN && b64))/\Below w.heap.size w w':=by
 cases bA with
 | true=>
  have HK:=hid hK
  have HA1:=hid ((Below.refl w.heap.size w).alloc (Nat.le_refl _) (.cells #[.int .i64 op,.int .i64 A,.int .i64 B,.int .u64 K,.slice P n c] 33))
  have HI:=hid (InAt.at_ w w.heap.size op A B K (.slice P n c) 33 rfl)
  have N1:=hid hn
  have HX:=hid (hx.keep HA1.out)
  clear hn hx
  clear hK
  go_enter Tryz.func29,Tryz.ntmps29
  go_wp2_with fail
  refine(HK.out _).mono ?_
  rintro en w2 ⟨rfl,hb2⟩
  have HX:=hid (HX.out.keep hb2)
  have HI:=hid (HI.out.keep hb2)
  have HW:=hid (HA1.out.trans (hb2.mono HA1.out.size))
  clear hb2
  obtain⟨i0,ic0,ic1,ic2,ic3,ic4,if0,if1,if2,if3,if4⟩:=HI.out
  go_wp2_with fail
  go_loopw [4,5] (fun u' j' wr=>∃k:Nat,u'= .bool (bA2 && (l.take k).all okN)/\j'= .int .i64 (k:Int)/\k<=n/\wr=w2) (fun _ j' _=>n - (intOf j').toNat)
  case atStart=>exact ⟨0,by simp,rfl,Nat.zero_le _,rfl⟩
  case round=>
   obtain⟨k,rfl,rfl,hk,rfl⟩:=hrel
   have hbig:=HX.out.len_le
   rw[N1.out] at hbig
   by_cases hlt:k<n
   ·obtain ⟨g,p,rfl,hc⟩:=HX.out.at_ (j:=k) (by rw[N1.out];exact hlt)
    have hin1:(0:Int)<=(k:Int):=by omega
    have hin2:(k:Int)<(n:Int):=by omega
    have hq:=all_take (l:=l) (k:=k) (by rw[N1.out];exact hlt)
    obtain⟨z,hz⟩:∃z,l.getD k 0=z:=⟨_,rfl⟩
    rw[hz] at hc hq
    obtain⟨t1,h1⟩:∃b,decide (0<=z)=b:=⟨_,rfl⟩
    obtain⟨t2,h2⟩:∃b,decide (z<=4294967295)=b:=⟨_,rfl⟩
    have hk2:okN z=(t1 && t2):=by unfold okN;rw[h1,h2]
    have HU:Hid ((bA2 && (l.take (k+1)).all okN)=((bA2 && (l.take k).all okN) && (t1 && t2))):=by
     show _=_
     rw[hq,hk2,Bool.and_assoc]
    clear hq hz hk2
    generalize (bA2 && (l.take k).all okN)=uu at *
    cases uu with
    | false=>
     go_wp2_with fail
     go_roundw
     case rel=>exact ⟨k+1,by rw[HU.out];rfl,by go_num,hlt,trivial⟩
     case measure=>simp[intOf];omega
    | true=>
     cases t1 with
     | false=>
      go_wp2_with fail
      go_roundw
      case rel=>exact ⟨k+1,by rw[HU.out];rfl,by go_num,hlt,trivial⟩
      case measure=>simp[intOf];omega
     | true=>
      cases t2 with
      | false=>
       go_wp2_with fail
       go_roundw
       case rel=>exact ⟨k+1,by rw[HU.out];rfl,by go_num,hlt,trivial⟩
       case measure=>simp[intOf];omega
      | true=>
       go_wp2_with fail
       go_roundw
       case rel=>exact ⟨k+1,by rw[HU.out];rfl,by go_num,hlt,trivial⟩
       case measure=>simp[intOf];omega
   ·obtain rfl:k=n:=by omega
    have HT:Hid (l.take k=l):=List.take_of_length_le (by rw[N1.out];exact Nat.le_refl _)
    rw[HT.out]
    cases bA2 with
    | false=>
     rw[show (false && l.all okN)=false from rfl]
     go_wp2_with fail
     exact bodyPost_ret (v:=.bool false) (by simp[results,Tryz.results29,go_sem]) rfl ⟨rfl,HW.out⟩
    | true=>
     cases hs:l.all okN with
     | false=>
      rw[show (true && false)=false from rfl]
      go_wp2_with fail
      exact bodyPost_ret (v:=.bool false) (by simp[results,Tryz.results29,go_sem]) rfl ⟨by rw[hs];rfl,HW.out⟩
     | true=>
      rw[show (true && true)=true from rfl]
      go_wp2_with fail
      exact bodyPost_ret (v:=.bool b64) (by simp[results,Tryz.results29,go_sem]) rfl ⟨by rw[hs];rfl,HW.out⟩
 | false=>
  have HK:=hid hK
  have HA1:=hid ((Below.refl w.heap.size w).alloc (Nat.le_refl _) (.cells #[.int .i64 op,.int .i64 A,.int .i64 B,.int .u64 K,.slice P n c] 33))
  have HI:=hid (InAt.at_ w w.heap.size op A B K (.slice P n c) 33 rfl)
  have N1:=hid hn
  have HX:=hid (hx.keep HA1.out)
  clear hn hx
  clear hK
  go_enter Tryz.func29,Tryz.ntmps29
  go_wp2_with fail
  refine(HK.out _).mono ?_
  rintro en w2 ⟨rfl,hb2⟩
  have HX:=hid (HX.out.keep hb2)
  have HI:=hid (HI.out.keep hb2)
  have HW:=hid (HA1.out.trans (hb2.mono HA1.out.size))
  clear hb2
  obtain⟨i0,ic0,ic1,ic2,ic3,ic4,if0,if1,if2,if3,if4⟩:=HI.out
  go_wp2_with fail
  go_loopw [4,5] (fun u' j' wr=>∃k:Nat,u'= .bool (false && (l.take k).all okN)/\j'= .int .i64 (k:Int)/\k<=n/\wr=w2) (fun _ j' _=>n - (intOf j').toNat)
  case atStart=>exact ⟨0,by simp,rfl,Nat.zero_le _,rfl⟩
  case round=>
   obtain⟨k,rfl,rfl,hk,rfl⟩:=hrel
   have hbig:=HX.out.len_le
   rw[N1.out] at hbig
   by_cases hlt:k<n
   ·obtain ⟨g,p,rfl,hc⟩:=HX.out.at_ (j:=k) (by rw[N1.out];exact hlt)
    have hin1:(0:Int)<=(k:Int):=by omega
    have hin2:(k:Int)<(n:Int):=by omega
    have hq:=all_take (l:=l) (k:=k) (by rw[N1.out];exact hlt)
    obtain⟨z,hz⟩:∃z,l.getD k 0=z:=⟨_,rfl⟩
    rw[hz] at hc hq
    obtain⟨t1,h1⟩:∃b,decide (0<=z)=b:=⟨_,rfl⟩
    obtain⟨t2,h2⟩:∃b,decide (z<=4294967295)=b:=⟨_,rfl⟩
    have hk2:okN z=(t1 && t2):=by unfold okN;rw[h1,h2]
    have HU:Hid ((false && (l.take (k+1)).all okN)=((false && (l.take k).all okN) && (t1 && t2))):=by
     show _=_
     rw[hq,hk2,Bool.and_assoc]
    clear hq hz hk2
    generalize (false && (l.take k).all okN)=uu at *
    cases uu with
    | false=>
     go_wp2_with fail
     go_roundw
     case rel=>exact ⟨k+1,by rw[HU.out];rfl,by go_num,hlt,trivial⟩
     case measure=>simp[intOf];omega
    | true=>
     cases t1 with
     | false=>
      go_wp2_with fail
      go_roundw
      case rel=>exact ⟨k+1,by rw[HU.out];rfl,by go_num,hlt,trivial⟩
      case measure=>simp[intOf];omega
     | true=>
      cases t2 with
      | false=>
       go_wp2_with fail
       go_roundw
       case rel=>exact ⟨k+1,by rw[HU.out];rfl,by go_num,hlt,trivial⟩
       case measure=>simp[intOf];omega
      | true=>
       go_wp2_with fail
       go_roundw
       case rel=>exact ⟨k+1,by rw[HU.out];rfl,by go_num,hlt,trivial⟩
       case measure=>simp[intOf];omega
   ·obtain rfl:k=n:=by omega
    have HT:Hid (l.take k=l):=List.take_of_length_le (by rw[N1.out];exact Nat.le_refl _)
    rw[HT.out]
    rw[show (false && l.all okN)=false from rfl]
    go_wp2_with fail
    exact bodyPost_ret (v:=.bool false) (by simp[results,Tryz.results29,go_sem]) rfl ⟨rfl,HW.out⟩
def saneI (x:Ins):Bool:=
 if (kd x.op≠4/\0<x.L.length)\/(kd x.op≠6/\x.B≠0)\/(kd x.op≠8/\kd x.op≠9/\x.K≠0) then false
 else if kd x.op=1\/kd x.op=7\/kd x.op=9 then x.A == 0
 else if kd x.op=2 then x.A == 0 || x.A == 126 || x.A == 127
 else if kd x.op=3\/kd x.op=5 then okN x.A
 else if kd x.op=4 then okN x.A && x.L.all okN && decide ((x.L.length:Int)<=64)
 else if kd x.op=6 then okN x.A && okN x.B
 else if kd x.op=8 then x.A == 0 && decide (x.K<4294967296)
 else false
theorem rsane_any {x:Ins}{o:Value}{w:World}(hx:SlI w o x.L):Calls Tryz.prog 29 #[iv x o] w fun en w'=>en= .returned (.bool (saneI x))/\Below w.heap.size w w':=by
 obtain⟨P,c,ho,_⟩:=id hx
 subst ho
 have hr:=kd_range x.op
 have hK:∀k:Int,kd x.op=k->∀W,Calls Tryz.prog 63 #[.int .i64 x.op] W fun en w'=>en= .returned (.int .i64 k)/\Below W.heap.size W w':=fun k hk W=>by
  have:=rkind_any x.op W
  unfold KdTold at this
  rwa [hk] at this
 unfold iv
 by_cases hf:(kd x.op≠4/\0<x.L.length)\/(kd x.op≠6/\x.B≠0)\/(kd x.op≠8/\kd x.op≠9/\x.K≠0)
 ·rw[show saneI x=false from if_pos hf]
  refine rsane_far x.op x.A x.B x.K (kd x.op) P x.L.length c w _ _ _ _ _ _ _ _ _ (hK _ rfl) rfl rfl rfl rfl rfl rfl rfl rfl rfl ?_
  simp only[bne_iff_ne,Bool.or_eq_true,Bool.and_eq_true,decide_eq_true_eq,ne_eq]
  omega
 ·have hB:kd x.op≠6->(x.B != 0)=false:=fun h=>by simp;omega
  have hKK:kd x.op≠8->kd x.op≠9->(x.K != 0)=false:=fun h h'=>by simp;omega
  have hL:kd x.op≠4->x.L.length=0:=fun h=>by omega
  have hs:saneI x=(if kd x.op=1\/kd x.op=7\/kd x.op=9 then x.A == 0 else if kd x.op=2 then x.A == 0 || x.A == 126 || x.A == 127 else if kd x.op=3\/kd x.op=5 then okN x.A else if kd x.op=4 then okN x.A && x.L.all okN && decide ((x.L.length:Int)<=64) else if kd x.op=6 then okN x.A && okN x.B else if kd x.op=8 then x.A == 0 && decide (x.K<4294967296) else false):=if_neg hf
  rw[hs]
  clear hs hf
  have hk:kd x.op=0\/kd x.op=1\/kd x.op=2\/kd x.op=3\/kd x.op=4\/kd x.op=5\/kd x.op=6\/kd x.op=7\/kd x.op=8\/kd x.op=9:=by omega
  rcases hk with hk | hk | hk | hk | hk | hk | hk | hk | hk | hk <;> rw[hk] at hB hKK hL ⊢
  ·rw[hL (by decide)]
   exact rsane_0 _ _ _ _ P c w _ _ (hK 0 hk) rfl rfl (hB (by decide)) (hKK (by decide) (by decide))
  ·rw[hL (by decide)]
   exact rsane_1 _ _ _ _ P c w _ _ _ (hK 1 hk) rfl rfl (hB (by decide)) (hKK (by decide) (by decide)) rfl
  ·rw[hL (by decide)]
   exact rsane_2 _ _ _ _ P c w _ _ _ _ _ (hK 2 hk) rfl rfl (hB (by decide)) (hKK (by decide) (by decide)) rfl rfl rfl
  ·rw[hL (by decide)]
   exact rsane_3 _ _ _ _ P c w _ _ (hK 3 hk) rfl rfl (hB (by decide)) (hKK (by decide) (by decide))
  ·exact rsane_4 _ _ _ _ P _ c x.L w _ _ _ rfl hx (hK 4 hk) (hB (by decide)) (hKK (by decide) (by decide)) rfl rfl rfl
  ·rw[hL (by decide)]
   exact rsane_5 _ _ _ _ P c w _ _ (hK 5 hk) rfl rfl (hB (by decide)) (hKK (by decide) (by decide))
  ·rw[hL (by decide)]
   exact rsane_6 _ _ _ _ P c w _ _ _ _ (hK 6 hk) rfl rfl (hKK (by decide) (by decide)) rfl rfl
  ·rw[hL (by decide)]
   exact rsane_7 _ _ _ _ P c w _ _ _ (hK 7 hk) rfl rfl (hB (by decide)) (hKK (by decide) (by decide)) rfl
  ·rw[hL (by decide)]
   exact rsane_8 _ _ _ _ P c w _ _ _ _ (hK 8 hk) rfl rfl (hB (by decide)) rfl rfl
  ·rw[hL (by decide)]
   exact rsane_9 _ _ _ _ P c w _ _ _ (hK 9 hk) rfl rfl (hB (by decide)) rfl
end Go.Proofs.YtlappkflnlbfcaaGreatDoor.Ins
end
