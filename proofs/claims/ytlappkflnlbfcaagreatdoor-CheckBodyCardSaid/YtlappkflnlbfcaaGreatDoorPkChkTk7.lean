import Derived.Test.YtlappkflnlbfcaaGreatDoorPkChkI16
import Derived.Test.YtlappkflnlbfcaaGreatDoorPkChkInd
import Derived.Test.YtlappkflnlbfcaaGreatDoorPkInsStab
import Derived.Deep.RegionLaw
namespace Go.Proofs.YtlappkflnlbfcaaGreatDoor.Chk
open Go renaming bodyPost_ret → jr
open Lib renaming hid → jq
open Go.RowKit Row9 Stk
set_option maxRecDepth 100000
set_option maxHeartbeats 8000000
set_option linter.unusedVariables false
theorem bequal_any {w:World}{v u:Value}{a b:List Int}(h1:Row elB w v a)(h2:Row elB w u b):Calls Tryz.prog 132 #[v,u] w fun e w'=>e= .returned (.bool (decide (a=b)))/\Below w.heap.size w w':=by
 have e1:=run_txt h1
 have e2:=run_txt h2
 have e3:=str_beq h1.2 h2.2
 obtain⟨A,c,rfl,_⟩:=h1.form
 obtain⟨A',c',rfl,_⟩:=h2.form
 generalize decide (a=b)=q at *
 generalize strOfNums a=S1 at *
 generalize strOfNums b=S2 at *
 generalize a.length=n at *
 generalize b.length=m at *
 clear h1 h2
 go_enter Tryz.func132,Tryz.ntmps132
 go_wp2_with fail
 exact jr (v:=.bool q) (by simp[results,Tryz.results132,go_sem]) rfl ⟨rfl,Below.refl _ _⟩
def LabAt (w:World)(k:Nat)(v:Value)(L:List Int):Prop:=∃w0,Ins.SlI w0 v L/\w0.heap.size<=k/\Below w0.heap.size w0 w
theorem LabAt.but {w w':World}{k:Nat}{v:Value}{L:List Int}(h:LabAt w k v L)(hb:But k w w')(hk:k<w.heap.size):LabAt w' k v L:=by
 obtain⟨w0,h1,h3,h4⟩:=h
 exact⟨w0,h1,h3,h4.trans (hb.below h3 hk)⟩
theorem LabAt.keep {w w':World}{k:Nat}{v:Value}{L:List Int}(h:LabAt w k v L)(hb:Below w.heap.size w w'):LabAt w' k v L:=by
 obtain⟨w0,h1,h3,h4⟩:=h
 exact⟨w0,h1,h3,h4.trans (hb.mono h4.size)⟩
theorem LabAt.sl {w:World}{k:Nat}{v:Value}{L:List Int}(h:LabAt w k v L):Ins.SlI w v L:=by
 obtain⟨w0,h1,_,h4⟩:=h
 exact h1.keep h4
theorem Bd.tab {l:List Int}{n:Nat}:∀ (L:List Int) {x:Rs},Bd x n->Bd (tabR l L x) n
 | [],x,h=>h
 | i :: L,x,h=>Bd.tab L (Bd.need (Bd.label h))
theorem drop_at {L:List Int}{i:Nat}(h:i<L.length):L.drop i=L.getD i 0 :: L.drop (i+1):=by
 rw[List.drop_eq_getElem_cons h,List.getD_eq_getElem?_getD,List.getElem?_eq_getElem h]
 rfl
theorem brTable_ck {w:World}{k:Nat}{V:EV}{E:EnvP}{s:Stk}{op A B K:Int}{lab:Value}{LL:List Int}(h:Cx w k V E (.ok s))(hb:Bd (.ok s) 300000)(hA:w64 A)(hL:LabAt w k lab LL)(hn:LL.length<=1000000)(hW:∀x∈LL,w64 x):Calls Tryz.prog 96 #[.pointer (some ⟨k,0,none⟩),.agg #[.int .i64 op,.int .i64 A,.int .i64 B,.int .u64 K,lab]] w (CkEnds w k V E (tableR A LL s) (.tuple #[])):=by
 have HA:=jq hA
 have HLN:=jq hn
 have HWL:=jq hW
 clear hW
 have HLB:=jq (hL.keep (zaB w (oJ op A B K lab)))
 clear hA hL hn
 have HD:Hid (tableR A LL s=killR (wantR (labelL A (.ok s)) (wantR [127] (tabR (labelL A (.ok s)) LL (labelR A (.ok s)))))):=rfl
 obtain⟨PL,cL,hlab,_⟩:=id HLB.out.sl
 subst hlab
 obtain⟨nL,hnL⟩:∃n,LL.length=n:=⟨_,rfl⟩
 rw[hnL] at HLB HLN ⊢
 have HNL:=jq hnL
 clear hnL
 have HCK:=jq h
 have HCK:=jq h
 have HB0:=jq hb
 have HBT:Hid (But k w (w.alloc (.cells #[.int .i64 op,.int .i64 A,.int .i64 B,.int .u64 K,.slice PL nL cL] 33))):=But.of_below (zaB w (.cells #[.int .i64 op,.int .i64 A,.int .i64 B,.int .u64 K,.slice PL nL cL] 33))
 have HCK:=jq (h.keep (zaB w (.cells #[.int .i64 op,.int .i64 A,.int .i64 B,.int .u64 K,.slice PL nL cL] 33)))
 have HX:=jq (zaC w (.cells #[.int .i64 op,.int .i64 A,.int .i64 B,.int .u64 K,.slice PL nL cL] 33))
 have HSZ:Hid ((w.alloc (.cells #[.int .i64 op,.int .i64 A,.int .i64 B,.int .u64 K,.slice PL nL cL] 33)).heap.size=w.heap.size+1):=zaD _ _
 have HYK:Hid (w.heap.size≠k):=jq (by have:=h.lt;omega)
 clear h hb
 obtain⟨b0,b1,b4⟩:=cells5 HX.out
 have bl:=jl HX.out
 go_enter Tryz.func96,Tryz.ntmps96
 go_wp2_with fail
 clear b0 b1 b4 bl
 generalize w.alloc (.cells #[.int .i64 op,.int .i64 A,.int .i64 B,.int .u64 K,.slice PL nL cL] 33)=u0 at *
 obtain⟨y,hy⟩:∃y,w.heap.size=y:=⟨_,rfl⟩
 rw[hy] at HX HYK HSZ
 simp only[hy]
 clear hy
 refine(label_ck HCK.out (HB0.out.mono (by omega)) HA.out).mono ?_
 rintro e w1 ⟨P1,n1,c1,rfl,hl,hc,hbt⟩
 have HLB:=jq (HLB.out.but hbt HCK.out.lt)
 have HX:=jq (hbt.bk HX.out HYK.out)
 have HBT:=jq (HBT.out.trans hbt)
 have HCK:=jq hc
 have HLb:=jq hl
 clear hc hbt hl
 obtain⟨b0,b1,b4⟩:=cells5 HX.out
 have HB1:Hid (Bd (labelR A (.ok s)) 300000):=HB0.out.label
 generalize labelR A (.ok s)=x1 at *
 have HLL:=jq (l1 A (.ok s))
 generalize labelL A (.ok s)=lb at *
 go_wp2_with fail
 clear b0 b1 b4
 go_loopw [14] (fun i' wr=>∃ (i:Nat) (x:Rs),i'= .int .i64 (i:Int)/\i<=nL/\Cx wr k V E x/\But k w wr/\Bd x 300000/\Row elB wr (.slice P1 n1 c1) lb/\LabAt wr k (.slice PL nL cL) LL/\tabR lb LL x1=tabR lb (LL.drop i) x) (fun i' _=>nL - (intOf i').toNat)
 case atStart=>exact ⟨0,x1,by go_num,Nat.zero_le _,HCK.out,HBT.out,HB1.out,HLb.out,HLB.out,rfl⟩
 case round=>
  obtain⟨i,x,rfl,hi,hcx,hbw,hbd,hrb,hla,htr⟩:=hrel
  have HCX:=jq hcx
  have HBW:=jq hbw
  have HBD:=jq hbd
  have HRB:=jq hrb
  have HLA:=jq hla
  have HTR:=jq htr
  clear hcx hbw hbd hrb hla htr
  by_cases hlt:i<nL
  ·obtain ⟨g,off,rfl,hcl⟩:=HLA.out.sl.at_ (j:=i) (by rw[HNL.out];exact hlt)
   have hdr:=drop_at (L:=LL) (i:=i) (by rw[HNL.out];exact hlt)
   obtain⟨u,hu⟩:∃u,LL.getD i 0=u:=⟨_,rfl⟩
   have hw:w64 u:=HWL.out u (by rw[<- hu,List.getD_eq_getElem?_getD,List.getElem?_eq_getElem (by rw[HNL.out];exact hlt)];exact List.getElem_mem _)
   rw[hu] at hdr hcl
   have HDR:=jq hdr
   have HWU:=jq hw
   have i1:(0:Int)<=(i:Int):=by omega
   have i2:(i:Int)<(nL:Int):=by omega
   have hw1:IntKind.i64.wrap ((i:Int)+1)=(i:Int)+1:=IntWalk.i64_in _ (by have:=HLN.out;omega)
   clear hdr hw hu
   go_wp2_with fail
   clear hcl
   refine(label_ck HCX.out (HBD.out.mono (by omega)) HWU.out).mono ?_
   rintro e w2 ⟨P2,n2,c2,rfl,hl,hc,hbt⟩
   have HRB:=jq (zaG HRB.out HCX.out.nobb hbt)
   have HLA:=jq (HLA.out.but hbt HCX.out.lt)
   have HBW:=jq (HBW.out.trans hbt)
   have HCX:=jq hc
   have HR2:=jq hl
   clear hl hc hbt
   go_wp2_with fail
   refine(bequal_any HR2.out HRB.out).mono ?_
   rintro e w3 ⟨rfl,hb⟩
   have HRB:=jq (HRB.out.keep hb)
   have HLA:=jq (HLA.out.keep hb)
   have HBW:=jq (HBW.out.trans (But.of_below hb))
   have HCX:=jq (HCX.out.keep hb)
   clear hb HR2
   go_wp2_with fail
   refine(need_ck HCX.out (by decide)).mono ?_
   rintro e w4 ⟨rfl,hc,hbt⟩
   have HRB:=jq (zaG HRB.out HCX.out.nobb hbt)
   have HLA:=jq (HLA.out.but hbt HCX.out.lt)
   have HBW:=jq (HBW.out.trans hbt)
   have HCX:=jq hc
   clear hc hbt
   go_wp2_with fail
   go_roundw
   case rel=>exact ⟨i+1,_,by go_num,hlt,HCX.out,HBW.out,HBD.out.label.need,HRB.out,HLA.out,by rw[HTR.out,HDR.out];rfl⟩
   case measure=>simp[intOf];omega
  ·obtain rfl:i=nL:=by omega
   have HTT:Hid (tabR lb LL x1=x):=by
    show _=_
    rw[HTR.out,List.drop_of_length_le (by rw[HNL.out];exact Nat.le_refl _)]
    rfl
   go_wp2_with fail
   have HNW:=jq (zaB wr (.cells #[.int .u8 127] 5))
   have HLR:=jq (zaL wr 127 ⟨by omega,by omega⟩)
   refine(want_ck (HCX.out.keep HNW.out) (HBD.out.mono (by omega)) HLR.out (by simp)).mono ?_
   rintro e w2 ⟨rfl,hc,hbt⟩
   have HRB:=jq (zaG (HRB.out.keep HNW.out) (HCX.out.keep HNW.out).nobb hbt)
   have HBW:=jq ((HBW.out.trans (But.of_below HNW.out)).trans hbt)
   have HCX:=jq hc
   clear hc hbt
   go_wp2_with fail
   refine(want_ck HCX.out (HBD.out.want.mono (by omega)) HRB.out HLL.out).mono ?_
   rintro e w3 ⟨rfl,hc,hbt⟩
   have HBW:=jq (HBW.out.trans hbt)
   have HCX:=jq hc
   clear hc hbt
   go_wp2_with fail
   refine(kill_ck HCX.out (HBD.out.want.want.mono (by omega))).mono ?_
   rintro e w4 ⟨rfl,hc,hbt⟩
   have HBW:=jq (HBW.out.trans hbt)
   have HCX:=jq hc
   clear hc hbt
   go_wp2_with fail
   exact bodyPost_end (v:=.tuple #[]) (by simp[results,Tryz.results96,go_sem]) rfl ⟨rfl,by rw[HD.out,HTT.out];exact HCX.out,HBW.out⟩
theorem index_ck {w:World}{k:Nat}{V:EV}{E:EnvP}{s:Stk}{op A B K:Int}{lab:Value}(h:Cx w k V E (.ok s))(hb:Bd (.ok s) 300000)(hf:FnBd E)(hA:w64 A)(hk:Ins.kd op=3):Calls Tryz.prog 95 #[.pointer (some ⟨k,0,none⟩),.agg #[.int .i64 op,.int .i64 A,.int .i64 B,.int .u64 K,lab]] w (CkEnds w k V E (indexR E op A s) (.tuple #[])):=by
 have ho:op=12\/op=13\/op=16\/op=32\/op=33\/op=34\/op=35\/op=36:=by
  unfold Ins.kd at hk
  split at hk
  ·exact absurd hk (by decide)
  ·repeat (first | omega | (split at hk))
 rcases ho with rfl | rfl | rfl | rfl | rfl | rfl | rfl | rfl
 ·exact index_12 h hb hf hA
 ·exact index_13 h hb hf hA
 ·exact index_16 h hb hf hA
 ·exact index_32 h hb hf hA
 ·exact index_33 h hb hf hA
 ·exact index_34 h hb hf hA
 ·exact index_35 h hb hf hA
 ·exact index_36 h hb hf hA
theorem stepOf_1 (w:World):Calls Tryz.prog 60 #[.int .i64 1] w fun e w'=>e= .returned (.func (.func 93) #[] #[])/\w'=w:=by
 have hix:∀W,(Instr.index 149 (.agg #[.nilFunc,.func (.func 93) #[] #[],.func (.func 94) #[] #[],.func (.func 95) #[] #[],.func (.func 96) #[] #[],.func (.func 97) #[] #[],.func (.func 98) #[] #[],.func (.func 99) #[] #[],.func (.func 100) #[] #[],.func (.func 101) #[] #[]]) (.int .i64 1)).run Tryz.prog W= .ok (.func (.func 93) #[] #[]) W:=fun W=>by rfl
 go_enter Tryz.func60,Tryz.ntmps60
 go_wp2_with fail
 exact jr (v:=.func (.func 93) #[] #[]) (by simp[results,Tryz.results60,go_sem]) rfl ⟨rfl,rfl⟩
theorem stepOf_2 (w:World):Calls Tryz.prog 60 #[.int .i64 2] w fun e w'=>e= .returned (.func (.func 94) #[] #[])/\w'=w:=by
 have hix:∀W,(Instr.index 149 (.agg #[.nilFunc,.func (.func 93) #[] #[],.func (.func 94) #[] #[],.func (.func 95) #[] #[],.func (.func 96) #[] #[],.func (.func 97) #[] #[],.func (.func 98) #[] #[],.func (.func 99) #[] #[],.func (.func 100) #[] #[],.func (.func 101) #[] #[]]) (.int .i64 2)).run Tryz.prog W= .ok (.func (.func 94) #[] #[]) W:=fun W=>by rfl
 go_enter Tryz.func60,Tryz.ntmps60
 go_wp2_with fail
 exact jr (v:=.func (.func 94) #[] #[]) (by simp[results,Tryz.results60,go_sem]) rfl ⟨rfl,rfl⟩
theorem stepOf_3 (w:World):Calls Tryz.prog 60 #[.int .i64 3] w fun e w'=>e= .returned (.func (.func 95) #[] #[])/\w'=w:=by
 have hix:∀W,(Instr.index 149 (.agg #[.nilFunc,.func (.func 93) #[] #[],.func (.func 94) #[] #[],.func (.func 95) #[] #[],.func (.func 96) #[] #[],.func (.func 97) #[] #[],.func (.func 98) #[] #[],.func (.func 99) #[] #[],.func (.func 100) #[] #[],.func (.func 101) #[] #[]]) (.int .i64 3)).run Tryz.prog W= .ok (.func (.func 95) #[] #[]) W:=fun W=>by rfl
 go_enter Tryz.func60,Tryz.ntmps60
 go_wp2_with fail
 exact jr (v:=.func (.func 95) #[] #[]) (by simp[results,Tryz.results60,go_sem]) rfl ⟨rfl,rfl⟩
theorem stepOf_4 (w:World):Calls Tryz.prog 60 #[.int .i64 4] w fun e w'=>e= .returned (.func (.func 96) #[] #[])/\w'=w:=by
 have hix:∀W,(Instr.index 149 (.agg #[.nilFunc,.func (.func 93) #[] #[],.func (.func 94) #[] #[],.func (.func 95) #[] #[],.func (.func 96) #[] #[],.func (.func 97) #[] #[],.func (.func 98) #[] #[],.func (.func 99) #[] #[],.func (.func 100) #[] #[],.func (.func 101) #[] #[]]) (.int .i64 4)).run Tryz.prog W= .ok (.func (.func 96) #[] #[]) W:=fun W=>by rfl
 go_enter Tryz.func60,Tryz.ntmps60
 go_wp2_with fail
 exact jr (v:=.func (.func 96) #[] #[]) (by simp[results,Tryz.results60,go_sem]) rfl ⟨rfl,rfl⟩
theorem stepOf_5 (w:World):Calls Tryz.prog 60 #[.int .i64 5] w fun e w'=>e= .returned (.func (.func 97) #[] #[])/\w'=w:=by
 have hix:∀W,(Instr.index 149 (.agg #[.nilFunc,.func (.func 93) #[] #[],.func (.func 94) #[] #[],.func (.func 95) #[] #[],.func (.func 96) #[] #[],.func (.func 97) #[] #[],.func (.func 98) #[] #[],.func (.func 99) #[] #[],.func (.func 100) #[] #[],.func (.func 101) #[] #[]]) (.int .i64 5)).run Tryz.prog W= .ok (.func (.func 97) #[] #[]) W:=fun W=>by rfl
 go_enter Tryz.func60,Tryz.ntmps60
 go_wp2_with fail
 exact jr (v:=.func (.func 97) #[] #[]) (by simp[results,Tryz.results60,go_sem]) rfl ⟨rfl,rfl⟩
theorem stepOf_6 (w:World):Calls Tryz.prog 60 #[.int .i64 6] w fun e w'=>e= .returned (.func (.func 98) #[] #[])/\w'=w:=by
 have hix:∀W,(Instr.index 149 (.agg #[.nilFunc,.func (.func 93) #[] #[],.func (.func 94) #[] #[],.func (.func 95) #[] #[],.func (.func 96) #[] #[],.func (.func 97) #[] #[],.func (.func 98) #[] #[],.func (.func 99) #[] #[],.func (.func 100) #[] #[],.func (.func 101) #[] #[]]) (.int .i64 6)).run Tryz.prog W= .ok (.func (.func 98) #[] #[]) W:=fun W=>by rfl
 go_enter Tryz.func60,Tryz.ntmps60
 go_wp2_with fail
 exact jr (v:=.func (.func 98) #[] #[]) (by simp[results,Tryz.results60,go_sem]) rfl ⟨rfl,rfl⟩
theorem stepOf_7 (w:World):Calls Tryz.prog 60 #[.int .i64 7] w fun e w'=>e= .returned (.func (.func 99) #[] #[])/\w'=w:=by
 have hix:∀W,(Instr.index 149 (.agg #[.nilFunc,.func (.func 93) #[] #[],.func (.func 94) #[] #[],.func (.func 95) #[] #[],.func (.func 96) #[] #[],.func (.func 97) #[] #[],.func (.func 98) #[] #[],.func (.func 99) #[] #[],.func (.func 100) #[] #[],.func (.func 101) #[] #[]]) (.int .i64 7)).run Tryz.prog W= .ok (.func (.func 99) #[] #[]) W:=fun W=>by rfl
 go_enter Tryz.func60,Tryz.ntmps60
 go_wp2_with fail
 exact jr (v:=.func (.func 99) #[] #[]) (by simp[results,Tryz.results60,go_sem]) rfl ⟨rfl,rfl⟩
theorem stepOf_8 (w:World):Calls Tryz.prog 60 #[.int .i64 8] w fun e w'=>e= .returned (.func (.func 100) #[] #[])/\w'=w:=by
 have hix:∀W,(Instr.index 149 (.agg #[.nilFunc,.func (.func 93) #[] #[],.func (.func 94) #[] #[],.func (.func 95) #[] #[],.func (.func 96) #[] #[],.func (.func 97) #[] #[],.func (.func 98) #[] #[],.func (.func 99) #[] #[],.func (.func 100) #[] #[],.func (.func 101) #[] #[]]) (.int .i64 8)).run Tryz.prog W= .ok (.func (.func 100) #[] #[]) W:=fun W=>by rfl
 go_enter Tryz.func60,Tryz.ntmps60
 go_wp2_with fail
 exact jr (v:=.func (.func 100) #[] #[]) (by simp[results,Tryz.results60,go_sem]) rfl ⟨rfl,rfl⟩
theorem stepOf_9 (w:World):Calls Tryz.prog 60 #[.int .i64 9] w fun e w'=>e= .returned (.func (.func 101) #[] #[])/\w'=w:=by
 have hix:∀W,(Instr.index 149 (.agg #[.nilFunc,.func (.func 93) #[] #[],.func (.func 94) #[] #[],.func (.func 95) #[] #[],.func (.func 96) #[] #[],.func (.func 97) #[] #[],.func (.func 98) #[] #[],.func (.func 99) #[] #[],.func (.func 100) #[] #[],.func (.func 101) #[] #[]]) (.int .i64 9)).run Tryz.prog W= .ok (.func (.func 101) #[] #[]) W:=fun W=>by rfl
 go_enter Tryz.func60,Tryz.ntmps60
 go_wp2_with fail
 exact jr (v:=.func (.func 101) #[] #[]) (by simp[results,Tryz.results60,go_sem]) rfl ⟨rfl,rfl⟩
theorem take_1 {w:World}{k:Nat}{V:EV}{E:EnvP}{s:Stk}{op A B K:Int}{LL:List Int}{lab:Value}(h:Cx w k V E (.ok s))(hb:Bd (.ok s) 300000)(hf:FnBd E)(hl:LabAt w k lab LL)(hu:Ints.u64R K)(hT:Ins.KTab w)(hA:Ins.ATab w)(hk:Ins.kd op=1)(hs:Ins.saneI ⟨op,A,B,K,LL⟩=true):Calls Tryz.prog 27 #[.pointer (some ⟨k,0,none⟩),.agg #[.int .i64 op,.int .i64 A,.int .i64 B,.int .u64 K,lab]] w (CkEnds w k V E (plainR E op s) (.tuple #[])):=by
 have HB0:=jq hb
 have HFB:=jq hf
 have HKQ:=jq hk
 have HL0:=jq (hl.keep (zaB w (oJ op A B K lab)))
 have HKT:=jq (hT.keep (zaB w (oJ op A B K lab)))
 have HAT:=jq (hA.keep (zaB w (oJ op A B K lab)))
 have HBT:Hid (But k w (w.alloc (oJ op A B K lab))):=But.of_below (zaB w (oJ op A B K lab))
 have HCK:=jq (h.keep (zaB w (oJ op A B K lab)))
 have HX:=jq (zaC w (oJ op A B K lab))
 have HSN:=jq (Ins.psane_any (x:=⟨op,A,B,K,LL⟩) (o:=lab) HL0.out.sl hu HKT.out)
 rw[hs] at HSN
 rw[show Ins.iv ⟨op,A,B,K,LL⟩ lab= .agg #[.int .i64 op,.int .i64 A,.int .i64 B,.int .u64 K,lab] from rfl] at HSN
 have HKD:=jq (fun W (hW:Ins.KTab W)=>Ins.kind_any op W hW)
 rw[hk] at HKD
 clear h hb hf hl hu hT hA hk hs
 obtain⟨b0,b1,b2,b3,b4⟩:_/\_/\_/\_/\_:=⟨(zaA HX.out 0).1,(zaA HX.out 1).1,(zaA HX.out 2).1,(zaA HX.out 3).1,(zaA HX.out 4).1⟩
 simp only[List.getElem?_toArray,List.getElem?_cons_zero,List.getElem?_cons_succ] at b0 b1 b2 b3 b4
 go_enter Tryz.func27,Tryz.ntmps27
 go_wp2_with fail
 clear b0 b1 b2 b3 b4
 generalize w.alloc (oJ op A B K lab)=u0 at *
 obtain⟨y,hy⟩:∃y,w.heap.size=y:=⟨_,rfl⟩
 rw[hy] at HX
 simp only[hy]
 clear hy
 refine HSN.out.mono ?_
 rintro e w1 ⟨rfl,hb⟩
 have HX1:=jq (blk HX.out hb)
 have HDw:=jq (hb.trans ((zaI w1).mono hb.size))
 have HCF:=jq (HCK.out.keep HDw.out)
 have HLF:=jq (HL0.out.keep HDw.out)
 have HTF:=jq (HAT.out.keep HDw.out)
 have HKF:=jq (HKD.out w1.drew (HKT.out.keep HDw.out))
 have HSF:=jq (stepOf_1 w1.drew)
 have HBF:=jq (HBT.out.trans (But.of_below HDw.out))
 obtain⟨b0,b1,b2,b3,b4⟩:_/\_/\_/\_/\_:=⟨(zaA HX1.out 0).1,(zaA HX1.out 1).1,(zaA HX1.out 2).1,(zaA HX1.out 3).1,(zaA HX1.out 4).1⟩
 simp only[List.getElem?_toArray,List.getElem?_cons_zero,List.getElem?_cons_succ] at b0 b1 b2 b3 b4
 clear hb HSN
 go_wp2_with fail
 go_region_law (first
  | (go_simp;go_at_call 61;(with_reducible refine Calls.mono HKF.out ?_);rintro e w2 ⟨rfl,hw2⟩;obtain rfl:=hw2)
  | (go_simp;go_at_call 60;(with_reducible refine Calls.mono HSF.out ?_);rintro e w3 ⟨rfl,hw3⟩;obtain rfl:=hw3)
  | (go_simp;go_at_call 93;refine Calls.mono (plain_ck HCF.out HB0.out HFB.out HKQ.out) ?_;rintro e w4 ⟨rfl,hc,hbt⟩;have HBT4:=jq (HBF.out.trans hbt);have HCK4:=jq hc;clear hc hbt))
 all_goals (
  clear b0 b1 b2 b3 b4
  go_wp2_with fail
  exact bodyPost_end (v:=.tuple #[]) (by simp[results,Tryz.results27,go_sem]) rfl ⟨rfl,HCK4.out,HBT4.out⟩)
theorem take_2 {w:World}{k:Nat}{V:EV}{E:EnvP}{s:Stk}{op A B K:Int}{LL:List Int}{lab:Value}(h:Cx w k V E (.ok s))(hb:Bd (.ok s) 300000)(hf:FnBd E)(hl:LabAt w k lab LL)(hu:Ints.u64R K)(hT:Ins.KTab w)(hA:Ins.ATab w)(hk:Ins.kd op=2)(hs:Ins.saneI ⟨op,A,B,K,LL⟩=true):Calls Tryz.prog 27 #[.pointer (some ⟨k,0,none⟩),.agg #[.int .i64 op,.int .i64 A,.int .i64 B,.int .u64 K,lab]] w (CkEnds w k V E (blockR op A s) (.tuple #[])):=by
 have HA2:Hid (A=0\/A=127\/A=126):=by
  have:=hs
  rw[Ins.saneI_eq,hk,Ins.saneK_2] at this
  simp only[Bool.and_eq_true,Bool.or_eq_true,beq_iff_eq] at this
  rcases this.1 with (h | h) | h
  ·exact .inl h
  ·exact .inr (.inl h)
  ·exact .inr (.inr h)
 have HO2:Hid (w64 op):=by
  have hr:op=2\/op=3\/op=4:=by
   have hk:=hk
   unfold Ins.kd at hk
   split at hk
   ·omega
   ·repeat (first | omega | (split at hk))
  rcases hr with rfl | rfl | rfl <;> exact ⟨by decide,by decide⟩
 have HB0:=jq hb
 have HFB:=jq hf
 have HKQ:=jq hk
 have HL0:=jq (hl.keep (zaB w (oJ op A B K lab)))
 have HKT:=jq (hT.keep (zaB w (oJ op A B K lab)))
 have HAT:=jq (hA.keep (zaB w (oJ op A B K lab)))
 have HBT:Hid (But k w (w.alloc (oJ op A B K lab))):=But.of_below (zaB w (oJ op A B K lab))
 have HCK:=jq (h.keep (zaB w (oJ op A B K lab)))
 have HX:=jq (zaC w (oJ op A B K lab))
 have HSN:=jq (Ins.psane_any (x:=⟨op,A,B,K,LL⟩) (o:=lab) HL0.out.sl hu HKT.out)
 rw[hs] at HSN
 rw[show Ins.iv ⟨op,A,B,K,LL⟩ lab= .agg #[.int .i64 op,.int .i64 A,.int .i64 B,.int .u64 K,lab] from rfl] at HSN
 have HKD:=jq (fun W (hW:Ins.KTab W)=>Ins.kind_any op W hW)
 rw[hk] at HKD
 clear h hb hf hl hu hT hA hk hs
 obtain⟨b0,b1,b2,b3,b4⟩:_/\_/\_/\_/\_:=⟨(zaA HX.out 0).1,(zaA HX.out 1).1,(zaA HX.out 2).1,(zaA HX.out 3).1,(zaA HX.out 4).1⟩
 simp only[List.getElem?_toArray,List.getElem?_cons_zero,List.getElem?_cons_succ] at b0 b1 b2 b3 b4
 go_enter Tryz.func27,Tryz.ntmps27
 go_wp2_with fail
 clear b0 b1 b2 b3 b4
 generalize w.alloc (oJ op A B K lab)=u0 at *
 obtain⟨y,hy⟩:∃y,w.heap.size=y:=⟨_,rfl⟩
 rw[hy] at HX
 simp only[hy]
 clear hy
 refine HSN.out.mono ?_
 rintro e w1 ⟨rfl,hb⟩
 have HX1:=jq (blk HX.out hb)
 have HDw:=jq (hb.trans ((zaI w1).mono hb.size))
 have HCF:=jq (HCK.out.keep HDw.out)
 have HLF:=jq (HL0.out.keep HDw.out)
 have HTF:=jq (HAT.out.keep HDw.out)
 have HKF:=jq (HKD.out w1.drew (HKT.out.keep HDw.out))
 have HSF:=jq (stepOf_2 w1.drew)
 have HBF:=jq (HBT.out.trans (But.of_below HDw.out))
 obtain⟨b0,b1,b2,b3,b4⟩:_/\_/\_/\_/\_:=⟨(zaA HX1.out 0).1,(zaA HX1.out 1).1,(zaA HX1.out 2).1,(zaA HX1.out 3).1,(zaA HX1.out 4).1⟩
 simp only[List.getElem?_toArray,List.getElem?_cons_zero,List.getElem?_cons_succ] at b0 b1 b2 b3 b4
 clear hb HSN
 go_wp2_with fail
 go_region_law (first
  | (go_simp;go_at_call 61;(with_reducible refine Calls.mono HKF.out ?_);rintro e w2 ⟨rfl,hw2⟩;obtain rfl:=hw2)
  | (go_simp;go_at_call 60;(with_reducible refine Calls.mono HSF.out ?_);rintro e w3 ⟨rfl,hw3⟩;obtain rfl:=hw3)
  | (go_simp;go_at_call 94;refine Calls.mono (block_ck HCF.out HB0.out HA2.out HO2.out) ?_;rintro e w4 ⟨rfl,hc,hbt⟩;have HBT4:=jq (HBF.out.trans hbt);have HCK4:=jq hc;clear hc hbt))
 all_goals (
  clear b0 b1 b2 b3 b4
  go_wp2_with fail
  exact bodyPost_end (v:=.tuple #[]) (by simp[results,Tryz.results27,go_sem]) rfl ⟨rfl,HCK4.out,HBT4.out⟩)
theorem take_3 {w:World}{k:Nat}{V:EV}{E:EnvP}{s:Stk}{op A B K:Int}{LL:List Int}{lab:Value}(h:Cx w k V E (.ok s))(hb:Bd (.ok s) 300000)(hf:FnBd E)(hl:LabAt w k lab LL)(hu:Ints.u64R K)(hT:Ins.KTab w)(hA:Ins.ATab w)(hk:Ins.kd op=3)(hs:Ins.saneI ⟨op,A,B,K,LL⟩=true):Calls Tryz.prog 27 #[.pointer (some ⟨k,0,none⟩),.agg #[.int .i64 op,.int .i64 A,.int .i64 B,.int .u64 K,lab]] w (CkEnds w k V E (indexR E op A s) (.tuple #[])):=by
 have HWA:Hid (w64 A):=by
  have:=hs
  rw[Ins.saneI_eq,hk,Ins.saneK_3] at this
  simp only[Bool.and_eq_true] at this
  have:=this.1
  unfold Ins.okN at this
  simp only[Bool.and_eq_true,decide_eq_true_eq] at this
  exact⟨by omega,by omega⟩
 have HB0:=jq hb
 have HFB:=jq hf
 have HKQ:=jq hk
 have HL0:=jq (hl.keep (zaB w (oJ op A B K lab)))
 have HKT:=jq (hT.keep (zaB w (oJ op A B K lab)))
 have HAT:=jq (hA.keep (zaB w (oJ op A B K lab)))
 have HBT:Hid (But k w (w.alloc (oJ op A B K lab))):=But.of_below (zaB w (oJ op A B K lab))
 have HCK:=jq (h.keep (zaB w (oJ op A B K lab)))
 have HX:=jq (zaC w (oJ op A B K lab))
 have HSN:=jq (Ins.psane_any (x:=⟨op,A,B,K,LL⟩) (o:=lab) HL0.out.sl hu HKT.out)
 rw[hs] at HSN
 rw[show Ins.iv ⟨op,A,B,K,LL⟩ lab= .agg #[.int .i64 op,.int .i64 A,.int .i64 B,.int .u64 K,lab] from rfl] at HSN
 have HKD:=jq (fun W (hW:Ins.KTab W)=>Ins.kind_any op W hW)
 rw[hk] at HKD
 clear h hb hf hl hu hT hA hk hs
 obtain⟨b0,b1,b2,b3,b4⟩:_/\_/\_/\_/\_:=⟨(zaA HX.out 0).1,(zaA HX.out 1).1,(zaA HX.out 2).1,(zaA HX.out 3).1,(zaA HX.out 4).1⟩
 simp only[List.getElem?_toArray,List.getElem?_cons_zero,List.getElem?_cons_succ] at b0 b1 b2 b3 b4
 go_enter Tryz.func27,Tryz.ntmps27
 go_wp2_with fail
 clear b0 b1 b2 b3 b4
 generalize w.alloc (oJ op A B K lab)=u0 at *
 obtain⟨y,hy⟩:∃y,w.heap.size=y:=⟨_,rfl⟩
 rw[hy] at HX
 simp only[hy]
 clear hy
 refine HSN.out.mono ?_
 rintro e w1 ⟨rfl,hb⟩
 have HX1:=jq (blk HX.out hb)
 have HDw:=jq (hb.trans ((zaI w1).mono hb.size))
 have HCF:=jq (HCK.out.keep HDw.out)
 have HLF:=jq (HL0.out.keep HDw.out)
 have HTF:=jq (HAT.out.keep HDw.out)
 have HKF:=jq (HKD.out w1.drew (HKT.out.keep HDw.out))
 have HSF:=jq (stepOf_3 w1.drew)
 have HBF:=jq (HBT.out.trans (But.of_below HDw.out))
 obtain⟨b0,b1,b2,b3,b4⟩:_/\_/\_/\_/\_:=⟨(zaA HX1.out 0).1,(zaA HX1.out 1).1,(zaA HX1.out 2).1,(zaA HX1.out 3).1,(zaA HX1.out 4).1⟩
 simp only[List.getElem?_toArray,List.getElem?_cons_zero,List.getElem?_cons_succ] at b0 b1 b2 b3 b4
 clear hb HSN
 go_wp2_with fail
 go_region_law (first
  | (go_simp;go_at_call 61;(with_reducible refine Calls.mono HKF.out ?_);rintro e w2 ⟨rfl,hw2⟩;obtain rfl:=hw2)
  | (go_simp;go_at_call 60;(with_reducible refine Calls.mono HSF.out ?_);rintro e w3 ⟨rfl,hw3⟩;obtain rfl:=hw3)
  | (go_simp;go_at_call 95;refine Calls.mono (index_ck HCF.out HB0.out HFB.out HWA.out HKQ.out) ?_;rintro e w4 ⟨rfl,hc,hbt⟩;have HBT4:=jq (HBF.out.trans hbt);have HCK4:=jq hc;clear hc hbt))
 all_goals (
  clear b0 b1 b2 b3 b4
  go_wp2_with fail
  exact bodyPost_end (v:=.tuple #[]) (by simp[results,Tryz.results27,go_sem]) rfl ⟨rfl,HCK4.out,HBT4.out⟩)
theorem take_4 {w:World}{k:Nat}{V:EV}{E:EnvP}{s:Stk}{op A B K:Int}{LL:List Int}{lab:Value}(h:Cx w k V E (.ok s))(hb:Bd (.ok s) 300000)(hf:FnBd E)(hl:LabAt w k lab LL)(hu:Ints.u64R K)(hT:Ins.KTab w)(hA:Ins.ATab w)(hk:Ins.kd op=4)(hs:Ins.saneI ⟨op,A,B,K,LL⟩=true):Calls Tryz.prog 27 #[.pointer (some ⟨k,0,none⟩),.agg #[.int .i64 op,.int .i64 A,.int .i64 B,.int .u64 K,lab]] w (CkEnds w k V E (tableR A LL s) (.tuple #[])):=by
 have hs4:(LL.all Ins.okN=true/\(LL.length:Int)<=64)/\Ins.okN A=true:=by
  have:=hs
  rw[Ins.saneI_eq,hk,Ins.saneK_4] at this
  simp only[Bool.and_eq_true,decide_eq_true_eq] at this
  exact this.1
 have HWA:Hid (w64 A):=by
  have:=hs4.2
  unfold Ins.okN at this
  simp only[Bool.and_eq_true,decide_eq_true_eq] at this
  exact⟨by omega,by omega⟩
 have HN4:Hid (LL.length<=1000000):=jq (by have:=hs4.1.2;omega)
 have HW4:Hid (∀x∈LL,w64 x):=fun x hx=>by
  have:=List.all_eq_true.1 hs4.1.1 x hx
  unfold Ins.okN at this
  simp only[Bool.and_eq_true,decide_eq_true_eq] at this
  exact⟨by omega,by omega⟩
 clear hs4
 have HB0:=jq hb
 have HFB:=jq hf
 have HKQ:=jq hk
 have HL0:=jq (hl.keep (zaB w (oJ op A B K lab)))
 have HKT:=jq (hT.keep (zaB w (oJ op A B K lab)))
 have HAT:=jq (hA.keep (zaB w (oJ op A B K lab)))
 have HBT:Hid (But k w (w.alloc (oJ op A B K lab))):=But.of_below (zaB w (oJ op A B K lab))
 have HCK:=jq (h.keep (zaB w (oJ op A B K lab)))
 have HX:=jq (zaC w (oJ op A B K lab))
 have HSN:=jq (Ins.psane_any (x:=⟨op,A,B,K,LL⟩) (o:=lab) HL0.out.sl hu HKT.out)
 rw[hs] at HSN
 rw[show Ins.iv ⟨op,A,B,K,LL⟩ lab= .agg #[.int .i64 op,.int .i64 A,.int .i64 B,.int .u64 K,lab] from rfl] at HSN
 have HKD:=jq (fun W (hW:Ins.KTab W)=>Ins.kind_any op W hW)
 rw[hk] at HKD
 clear h hb hf hl hu hT hA hk hs
 obtain⟨b0,b1,b2,b3,b4⟩:_/\_/\_/\_/\_:=⟨(zaA HX.out 0).1,(zaA HX.out 1).1,(zaA HX.out 2).1,(zaA HX.out 3).1,(zaA HX.out 4).1⟩
 simp only[List.getElem?_toArray,List.getElem?_cons_zero,List.getElem?_cons_succ] at b0 b1 b2 b3 b4
 go_enter Tryz.func27,Tryz.ntmps27
 go_wp2_with fail
 clear b0 b1 b2 b3 b4
 generalize w.alloc (oJ op A B K lab)=u0 at *
 obtain⟨y,hy⟩:∃y,w.heap.size=y:=⟨_,rfl⟩
 rw[hy] at HX
 simp only[hy]
 clear hy
 refine HSN.out.mono ?_
 rintro e w1 ⟨rfl,hb⟩
 have HX1:=jq (blk HX.out hb)
 have HDw:=jq (hb.trans ((zaI w1).mono hb.size))
 have HCF:=jq (HCK.out.keep HDw.out)
 have HLF:=jq (HL0.out.keep HDw.out)
 have HTF:=jq (HAT.out.keep HDw.out)
 have HKF:=jq (HKD.out w1.drew (HKT.out.keep HDw.out))
 have HSF:=jq (stepOf_4 w1.drew)
 have HBF:=jq (HBT.out.trans (But.of_below HDw.out))
 obtain⟨b0,b1,b2,b3,b4⟩:_/\_/\_/\_/\_:=⟨(zaA HX1.out 0).1,(zaA HX1.out 1).1,(zaA HX1.out 2).1,(zaA HX1.out 3).1,(zaA HX1.out 4).1⟩
 simp only[List.getElem?_toArray,List.getElem?_cons_zero,List.getElem?_cons_succ] at b0 b1 b2 b3 b4
 clear hb HSN
 go_wp2_with fail
 go_region_law (first
  | (go_simp;go_at_call 61;(with_reducible refine Calls.mono HKF.out ?_);rintro e w2 ⟨rfl,hw2⟩;obtain rfl:=hw2)
  | (go_simp;go_at_call 60;(with_reducible refine Calls.mono HSF.out ?_);rintro e w3 ⟨rfl,hw3⟩;obtain rfl:=hw3)
  | (go_simp;go_at_call 96;refine Calls.mono (brTable_ck HCF.out HB0.out HWA.out HLF.out HN4.out HW4.out) ?_;rintro e w4 ⟨rfl,hc,hbt⟩;have HBT4:=jq (HBF.out.trans hbt);have HCK4:=jq hc;clear hc hbt))
 all_goals (
  clear b0 b1 b2 b3 b4
  go_wp2_with fail
  exact bodyPost_end (v:=.tuple #[]) (by simp[results,Tryz.results27,go_sem]) rfl ⟨rfl,HCK4.out,HBT4.out⟩)
theorem take_5 {w:World}{k:Nat}{V:EV}{E:EnvP}{s:Stk}{op A B K:Int}{LL:List Int}{lab:Value}(h:Cx w k V E (.ok s))(hb:Bd (.ok s) 300000)(hf:FnBd E)(hl:LabAt w k lab LL)(hu:Ints.u64R K)(hT:Ins.KTab w)(hA:Ins.ATab w)(hk:Ins.kd op=5)(hs:Ins.saneI ⟨op,A,B,K,LL⟩=true):Calls Tryz.prog 27 #[.pointer (some ⟨k,0,none⟩),.agg #[.int .i64 op,.int .i64 A,.int .i64 B,.int .u64 K,lab]] w (CkEnds w k V E (callIR E A s) (.tuple #[])):=by
 have HWA:Hid (w64 A):=by
  have:=hs
  rw[Ins.saneI_eq,hk,Ins.saneK_5] at this
  simp only[Bool.and_eq_true] at this
  have:=this.1
  unfold Ins.okN at this
  simp only[Bool.and_eq_true,decide_eq_true_eq] at this
  exact⟨by omega,by omega⟩
 have HB0:=jq hb
 have HFB:=jq hf
 have HKQ:=jq hk
 have HL0:=jq (hl.keep (zaB w (oJ op A B K lab)))
 have HKT:=jq (hT.keep (zaB w (oJ op A B K lab)))
 have HAT:=jq (hA.keep (zaB w (oJ op A B K lab)))
 have HBT:Hid (But k w (w.alloc (oJ op A B K lab))):=But.of_below (zaB w (oJ op A B K lab))
 have HCK:=jq (h.keep (zaB w (oJ op A B K lab)))
 have HX:=jq (zaC w (oJ op A B K lab))
 have HSN:=jq (Ins.psane_any (x:=⟨op,A,B,K,LL⟩) (o:=lab) HL0.out.sl hu HKT.out)
 rw[hs] at HSN
 rw[show Ins.iv ⟨op,A,B,K,LL⟩ lab= .agg #[.int .i64 op,.int .i64 A,.int .i64 B,.int .u64 K,lab] from rfl] at HSN
 have HKD:=jq (fun W (hW:Ins.KTab W)=>Ins.kind_any op W hW)
 rw[hk] at HKD
 clear h hb hf hl hu hT hA hk hs
 obtain⟨b0,b1,b2,b3,b4⟩:_/\_/\_/\_/\_:=⟨(zaA HX.out 0).1,(zaA HX.out 1).1,(zaA HX.out 2).1,(zaA HX.out 3).1,(zaA HX.out 4).1⟩
 simp only[List.getElem?_toArray,List.getElem?_cons_zero,List.getElem?_cons_succ] at b0 b1 b2 b3 b4
 go_enter Tryz.func27,Tryz.ntmps27
 go_wp2_with fail
 clear b0 b1 b2 b3 b4
 generalize w.alloc (oJ op A B K lab)=u0 at *
 obtain⟨y,hy⟩:∃y,w.heap.size=y:=⟨_,rfl⟩
 rw[hy] at HX
 simp only[hy]
 clear hy
 refine HSN.out.mono ?_
 rintro e w1 ⟨rfl,hb⟩
 have HX1:=jq (blk HX.out hb)
 have HDw:=jq (hb.trans ((zaI w1).mono hb.size))
 have HCF:=jq (HCK.out.keep HDw.out)
 have HLF:=jq (HL0.out.keep HDw.out)
 have HTF:=jq (HAT.out.keep HDw.out)
 have HKF:=jq (HKD.out w1.drew (HKT.out.keep HDw.out))
 have HSF:=jq (stepOf_5 w1.drew)
 have HBF:=jq (HBT.out.trans (But.of_below HDw.out))
 obtain⟨b0,b1,b2,b3,b4⟩:_/\_/\_/\_/\_:=⟨(zaA HX1.out 0).1,(zaA HX1.out 1).1,(zaA HX1.out 2).1,(zaA HX1.out 3).1,(zaA HX1.out 4).1⟩
 simp only[List.getElem?_toArray,List.getElem?_cons_zero,List.getElem?_cons_succ] at b0 b1 b2 b3 b4
 clear hb HSN
 go_wp2_with fail
 go_region_law (first
  | (go_simp;go_at_call 61;(with_reducible refine Calls.mono HKF.out ?_);rintro e w2 ⟨rfl,hw2⟩;obtain rfl:=hw2)
  | (go_simp;go_at_call 60;(with_reducible refine Calls.mono HSF.out ?_);rintro e w3 ⟨rfl,hw3⟩;obtain rfl:=hw3)
  | (go_simp;go_at_call 97;refine Calls.mono (callInd_ck HCF.out HB0.out HFB.out HWA.out) ?_;rintro e w4 ⟨rfl,hc,hbt⟩;have HBT4:=jq (HBF.out.trans hbt);have HCK4:=jq hc;clear hc hbt))
 all_goals (
  clear b0 b1 b2 b3 b4
  go_wp2_with fail
  exact bodyPost_end (v:=.tuple #[]) (by simp[results,Tryz.results27,go_sem]) rfl ⟨rfl,HCK4.out,HBT4.out⟩)
theorem take_6 {w:World}{k:Nat}{V:EV}{E:EnvP}{s:Stk}{op A B K:Int}{LL:List Int}{lab:Value}(h:Cx w k V E (.ok s))(hb:Bd (.ok s) 300000)(hf:FnBd E)(hl:LabAt w k lab LL)(hu:Ints.u64R K)(hT:Ins.KTab w)(hA:Ins.ATab w)(hk:Ins.kd op=6)(hs:Ins.saneI ⟨op,A,B,K,LL⟩=true):Calls Tryz.prog 27 #[.pointer (some ⟨k,0,none⟩),.agg #[.int .i64 op,.int .i64 A,.int .i64 B,.int .u64 K,lab]] w (CkEnds w k V E (accessR E op A s) (.tuple #[])):=by
 have HB0:=jq hb
 have HFB:=jq hf
 have HKQ:=jq hk
 have HL0:=jq (hl.keep (zaB w (oJ op A B K lab)))
 have HKT:=jq (hT.keep (zaB w (oJ op A B K lab)))
 have HAT:=jq (hA.keep (zaB w (oJ op A B K lab)))
 have HBT:Hid (But k w (w.alloc (oJ op A B K lab))):=But.of_below (zaB w (oJ op A B K lab))
 have HCK:=jq (h.keep (zaB w (oJ op A B K lab)))
 have HX:=jq (zaC w (oJ op A B K lab))
 have HSN:=jq (Ins.psane_any (x:=⟨op,A,B,K,LL⟩) (o:=lab) HL0.out.sl hu HKT.out)
 rw[hs] at HSN
 rw[show Ins.iv ⟨op,A,B,K,LL⟩ lab= .agg #[.int .i64 op,.int .i64 A,.int .i64 B,.int .u64 K,lab] from rfl] at HSN
 have HKD:=jq (fun W (hW:Ins.KTab W)=>Ins.kind_any op W hW)
 rw[hk] at HKD
 clear h hb hf hl hu hT hA hk hs
 obtain⟨b0,b1,b2,b3,b4⟩:_/\_/\_/\_/\_:=⟨(zaA HX.out 0).1,(zaA HX.out 1).1,(zaA HX.out 2).1,(zaA HX.out 3).1,(zaA HX.out 4).1⟩
 simp only[List.getElem?_toArray,List.getElem?_cons_zero,List.getElem?_cons_succ] at b0 b1 b2 b3 b4
 go_enter Tryz.func27,Tryz.ntmps27
 go_wp2_with fail
 clear b0 b1 b2 b3 b4
 generalize w.alloc (oJ op A B K lab)=u0 at *
 obtain⟨y,hy⟩:∃y,w.heap.size=y:=⟨_,rfl⟩
 rw[hy] at HX
 simp only[hy]
 clear hy
 refine HSN.out.mono ?_
 rintro e w1 ⟨rfl,hb⟩
 have HX1:=jq (blk HX.out hb)
 have HDw:=jq (hb.trans ((zaI w1).mono hb.size))
 have HCF:=jq (HCK.out.keep HDw.out)
 have HLF:=jq (HL0.out.keep HDw.out)
 have HTF:=jq (HAT.out.keep HDw.out)
 have HKF:=jq (HKD.out w1.drew (HKT.out.keep HDw.out))
 have HSF:=jq (stepOf_6 w1.drew)
 have HBF:=jq (HBT.out.trans (But.of_below HDw.out))
 obtain⟨b0,b1,b2,b3,b4⟩:_/\_/\_/\_/\_:=⟨(zaA HX1.out 0).1,(zaA HX1.out 1).1,(zaA HX1.out 2).1,(zaA HX1.out 3).1,(zaA HX1.out 4).1⟩
 simp only[List.getElem?_toArray,List.getElem?_cons_zero,List.getElem?_cons_succ] at b0 b1 b2 b3 b4
 clear hb HSN
 go_wp2_with fail
 go_region_law (first
  | (go_simp;go_at_call 61;(with_reducible refine Calls.mono HKF.out ?_);rintro e w2 ⟨rfl,hw2⟩;obtain rfl:=hw2)
  | (go_simp;go_at_call 60;(with_reducible refine Calls.mono HSF.out ?_);rintro e w3 ⟨rfl,hw3⟩;obtain rfl:=hw3)
  | (go_simp;go_at_call 98;refine Calls.mono (access_ck HCF.out HB0.out HKQ.out HTF.out) ?_;rintro e w4 ⟨rfl,hc,hbt⟩;have HBT4:=jq (HBF.out.trans hbt);have HCK4:=jq hc;clear hc hbt))
 all_goals (
  clear b0 b1 b2 b3 b4
  go_wp2_with fail
  exact bodyPost_end (v:=.tuple #[]) (by simp[results,Tryz.results27,go_sem]) rfl ⟨rfl,HCK4.out,HBT4.out⟩)
theorem take_7 {w:World}{k:Nat}{V:EV}{E:EnvP}{s:Stk}{op A B K:Int}{LL:List Int}{lab:Value}(h:Cx w k V E (.ok s))(hb:Bd (.ok s) 300000)(hf:FnBd E)(hl:LabAt w k lab LL)(hu:Ints.u64R K)(hT:Ins.KTab w)(hA:Ins.ATab w)(hk:Ins.kd op=7)(hs:Ins.saneI ⟨op,A,B,K,LL⟩=true):Calls Tryz.prog 27 #[.pointer (some ⟨k,0,none⟩),.agg #[.int .i64 op,.int .i64 A,.int .i64 B,.int .u64 K,lab]] w (CkEnds w k V E (memR E op s) (.tuple #[])):=by
 have HB0:=jq hb
 have HFB:=jq hf
 have HKQ:=jq hk
 have HL0:=jq (hl.keep (zaB w (oJ op A B K lab)))
 have HKT:=jq (hT.keep (zaB w (oJ op A B K lab)))
 have HAT:=jq (hA.keep (zaB w (oJ op A B K lab)))
 have HBT:Hid (But k w (w.alloc (oJ op A B K lab))):=But.of_below (zaB w (oJ op A B K lab))
 have HCK:=jq (h.keep (zaB w (oJ op A B K lab)))
 have HX:=jq (zaC w (oJ op A B K lab))
 have HSN:=jq (Ins.psane_any (x:=⟨op,A,B,K,LL⟩) (o:=lab) HL0.out.sl hu HKT.out)
 rw[hs] at HSN
 rw[show Ins.iv ⟨op,A,B,K,LL⟩ lab= .agg #[.int .i64 op,.int .i64 A,.int .i64 B,.int .u64 K,lab] from rfl] at HSN
 have HKD:=jq (fun W (hW:Ins.KTab W)=>Ins.kind_any op W hW)
 rw[hk] at HKD
 clear h hb hf hl hu hT hA hk hs
 obtain⟨b0,b1,b2,b3,b4⟩:_/\_/\_/\_/\_:=⟨(zaA HX.out 0).1,(zaA HX.out 1).1,(zaA HX.out 2).1,(zaA HX.out 3).1,(zaA HX.out 4).1⟩
 simp only[List.getElem?_toArray,List.getElem?_cons_zero,List.getElem?_cons_succ] at b0 b1 b2 b3 b4
 go_enter Tryz.func27,Tryz.ntmps27
 go_wp2_with fail
 clear b0 b1 b2 b3 b4
 generalize w.alloc (oJ op A B K lab)=u0 at *
 obtain⟨y,hy⟩:∃y,w.heap.size=y:=⟨_,rfl⟩
 rw[hy] at HX
 simp only[hy]
 clear hy
 refine HSN.out.mono ?_
 rintro e w1 ⟨rfl,hb⟩
 have HX1:=jq (blk HX.out hb)
 have HDw:=jq (hb.trans ((zaI w1).mono hb.size))
 have HCF:=jq (HCK.out.keep HDw.out)
 have HLF:=jq (HL0.out.keep HDw.out)
 have HTF:=jq (HAT.out.keep HDw.out)
 have HKF:=jq (HKD.out w1.drew (HKT.out.keep HDw.out))
 have HSF:=jq (stepOf_7 w1.drew)
 have HBF:=jq (HBT.out.trans (But.of_below HDw.out))
 obtain⟨b0,b1,b2,b3,b4⟩:_/\_/\_/\_/\_:=⟨(zaA HX1.out 0).1,(zaA HX1.out 1).1,(zaA HX1.out 2).1,(zaA HX1.out 3).1,(zaA HX1.out 4).1⟩
 simp only[List.getElem?_toArray,List.getElem?_cons_zero,List.getElem?_cons_succ] at b0 b1 b2 b3 b4
 clear hb HSN
 go_wp2_with fail
 go_region_law (first
  | (go_simp;go_at_call 61;(with_reducible refine Calls.mono HKF.out ?_);rintro e w2 ⟨rfl,hw2⟩;obtain rfl:=hw2)
  | (go_simp;go_at_call 60;(with_reducible refine Calls.mono HSF.out ?_);rintro e w3 ⟨rfl,hw3⟩;obtain rfl:=hw3)
  | (go_simp;go_at_call 99;refine Calls.mono (memory_ck HCF.out HB0.out) ?_;rintro e w4 ⟨rfl,hc,hbt⟩;have HBT4:=jq (HBF.out.trans hbt);have HCK4:=jq hc;clear hc hbt))
 all_goals (
  clear b0 b1 b2 b3 b4
  go_wp2_with fail
  exact bodyPost_end (v:=.tuple #[]) (by simp[results,Tryz.results27,go_sem]) rfl ⟨rfl,HCK4.out,HBT4.out⟩)
end Go.Proofs.YtlappkflnlbfcaaGreatDoor.Chk
