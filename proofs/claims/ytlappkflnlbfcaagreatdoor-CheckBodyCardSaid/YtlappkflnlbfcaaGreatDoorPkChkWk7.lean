import Derived.Test.YtlappkflnlbfcaaGreatDoorPkChkWk6
import Derived.Test.YtlappkflnlbfcaaGreatDoorPkChkTk7
namespace Go.Proofs.YtlappkflnlbfcaaGreatDoor.Chk
open Lib renaming hid → jq
open Go.RowKit Row9 Stk
set_option maxRecDepth 100000
set_option maxHeartbeats 2000000
set_option linter.unusedVariables false
theorem need_lab {x:Rs}{i:Int}{l lb:List Int}(h:∀s,x= .ok s->l=labelL i x):needR (decide (l=lb)) 5 (labelR i x)=needR (decide (labelL i x=lb)) 5 (labelR i x):=by
 cases x with
 | er e=>rfl
 | ok s=>rw[h s rfl]
theorem branch_15 {w:World}{k:Nat}{x:Rs}{z:Nat}{V:EV}{E:EnvP}{A B K:Int}{lab:Value}(h:Cw w k x z)(hz:z<=300000)(hE:EvAt w k V E)(hF:FnBd E):Calls Tryz.prog 34 #[.pointer (some ⟨k,0,none⟩),(.agg #[.slice V.Pt V.nt V.ct,.slice V.Pf V.nf V.cf,.int .i64 E.tables,.int .i64 E.mems,.slice V.Pg V.ng V.cg,.slice V.Pl V.nl V.cl,.slice V.Pr V.nr V.cr]),.agg #[.int .i64 15,.int .i64 A,.int .i64 B,.int .u64 K,lab]] w (CwEnds w k (killR (wantR E.results x)) (z) (.tuple #[])):=by
 obtain⟨Y,hY⟩:∃Y,(killR (wantR E.results x))=Y:=⟨_,rfl⟩
 rw[hY]
 have HD:=jq hY
 clear hY
 have HFB:=jq hF.2
 clear hF
 have HBX:=jq (below2 w (oE V E) (oI 15 A B K lab))
 have HXE:=jq (blk (zaC w (oE V E)) (zaB (w.alloc (oE V E)) (oI 15 A B K lab)))
 have HXI:=jq (zaC (w.alloc (oE V E)) (oI 15 A B K lab))
 rw[zaD] at HXI
 have HE:=jq (hE.keep HBX.out)
 have HYK:Hid (w.heap.size≠k):=jq (by have:=h.lt;omega)
 have HYI:Hid (w.heap.size+1≠k):=jq (by have:=h.lt;omega)
 have HC:=jq (h.keep HBX.out)
 have HBT:Hid (But k w ((w.alloc (oE V E)).alloc (oI 15 A B K lab))):=But.of_below HBX.out
 have HZ:=jq hz
 clear h hz hE
 obtain⟨a0,a1,a2,a3,a4,a5,a6⟩:=zaK HXE.out
 have al:=jl HXE.out
 obtain⟨b0,b1,b4⟩:=cells5 HXI.out
 have bl:=jl HXI.out
 go_enter Tryz.func34,Tryz.ntmps34
 go_wp2_with fail
 clear a0 a1 a2 a3 a4 a5 a6 al b0 b1 b4 bl
 generalize (w.alloc (oE V E)).alloc (oI 15 A B K lab)=u0 at *
 obtain⟨y,hy⟩:∃y,w.heap.size=y:=⟨_,rfl⟩
 rw[hy] at HXE HXI HYK HYI
 simp only[hy]
 obtain⟨q,hq⟩:∃q,y+1=q:=⟨_,rfl⟩
 rw[hq] at HXI HYI
 simp only[hq]
 clear hy hq HBX
 refine(want_wk HC.out (by have:=HZ.out;omega) HE.out.env.r (by have:=HFB.out;omega)).mono ?_
 rintro e w1 ⟨rfl,hc,hbt⟩
 have HXE:=jq (hbt.bk HXE.out HYK.out)
 have HE:=jq (HE.out.but hbt HC.out.lt)
 have HXI:=jq (hbt.bk HXI.out HYI.out)
 have HBT:=jq (HBT.out.trans hbt)
 have HC:=jq hc
 clear hc hbt
 obtain⟨a0,a1,a2,a3,a4,a5,a6⟩:=zaK HXE.out
 have al:=jl HXE.out
 obtain⟨b0,b1,b4⟩:=cells5 HXI.out
 have bl:=jl HXI.out
 go_wp2_with fail
 clear a0 a1 a2 a3 a4 a5 a6 al b0 b1 b4 bl
 refine(kill_wk HC.out (by have:=HZ.out;omega)).mono ?_
 rintro e w2 ⟨rfl,hc,hbt⟩
 have HXE:=jq (hbt.bk HXE.out HYK.out)
 have HE:=jq (HE.out.but hbt HC.out.lt)
 have HXI:=jq (hbt.bk HXI.out HYI.out)
 have HBT:=jq (HBT.out.trans hbt)
 have HC:=jq hc
 clear hc hbt
 go_wp2_with fail
 first | exact bodyPost_end (v:=.tuple #[]) (by simp[results,Tryz.results34,go_sem]) rfl ⟨rfl,by rw[<- HD.out];exact HC.out,HBT.out⟩ | exact bodyPost_ret (v:=.tuple #[]) (by simp[results,Tryz.results34,go_sem]) rfl ⟨rfl,by rw[<- HD.out];exact HC.out,HBT.out⟩
theorem branch_12 {w:World}{k:Nat}{z:Nat}{V:EV}{E:EnvP}{A B K:Int}{PL:Option Addr}{nL cL:Nat}{LL:List Int}{s:Stk}(h:Cw w k (.ok s) z)(hz:z<=300000)(hE:EvAt w k V E)(hL:LabAt w k (.slice PL nL cL) LL)(hnL:LL.length=nL)(hn:nL<=1000000)(hW:∀i∈LL,w64 i)(hA:w64 A):Calls Tryz.prog 34 #[.pointer (some ⟨k,0,none⟩),(.agg #[.slice V.Pt V.nt V.ct,.slice V.Pf V.nf V.cf,.int .i64 E.tables,.int .i64 E.mems,.slice V.Pg V.ng V.cg,.slice V.Pl V.nl V.cl,.slice V.Pr V.nr V.cr]),.agg #[.int .i64 12,.int .i64 A,.int .i64 B,.int .u64 K,.slice PL nL cL]] w (CwEnds w k (killR (wantR (labelL A (.ok s)) (tabR (labelL A (.ok s)) LL (labelR A (.ok s))))) (z+1) (.tuple #[])):=by
 obtain⟨Y,hY⟩:∃Y,(killR (wantR (labelL A (.ok s)) (tabR (labelL A (.ok s)) LL (labelR A (.ok s)))))=Y:=⟨_,rfl⟩
 rw[hY]
 have HD:=jq hY
 clear hY
 have HLB:=jq (hL.keep (below2 w (oE V E) (oI 12 A B K (.slice PL nL cL))))
 have HLN:=jq hn
 have HNL:=jq hnL
 have HWL:=jq hW
 have HA:=jq hA
 have HBX:=jq (below2 w (oE V E) (oI 12 A B K (.slice PL nL cL)))
 have HXE:=jq (blk (zaC w (oE V E)) (zaB (w.alloc (oE V E)) (oI 12 A B K (.slice PL nL cL))))
 have HXI:=jq (zaC (w.alloc (oE V E)) (oI 12 A B K (.slice PL nL cL)))
 rw[zaD] at HXI
 have HE:=jq (hE.keep HBX.out)
 have HYK:Hid (w.heap.size≠k):=jq (by have:=h.lt;omega)
 have HYI:Hid (w.heap.size+1≠k):=jq (by have:=h.lt;omega)
 have HC:=jq (h.keep HBX.out)
 have HBT:Hid (But k w ((w.alloc (oE V E)).alloc (oI 12 A B K (.slice PL nL cL)))):=But.of_below HBX.out
 have HZ:=jq hz
 clear h hz hE hL hnL hn hW hA
 obtain⟨a0,a1,a2,a3,a4,a5,a6⟩:=zaK HXE.out
 have al:=jl HXE.out
 obtain⟨b0,b1,b4⟩:=cells5 HXI.out
 have bl:=jl HXI.out
 go_enter Tryz.func34,Tryz.ntmps34
 go_wp2_with fail
 clear a0 a1 a2 a3 a4 a5 a6 al b0 b1 b4 bl
 generalize (w.alloc (oE V E)).alloc (oI 12 A B K (.slice PL nL cL))=u0 at *
 obtain⟨y,hy⟩:∃y,w.heap.size=y:=⟨_,rfl⟩
 rw[hy] at HXE HXI HYK HYI
 simp only[hy]
 obtain⟨q,hq⟩:∃q,y+1=q:=⟨_,rfl⟩
 rw[hq] at HXI HYI
 simp only[hq]
 clear hy hq HBX
 refine(label_wk HC.out (by have:=HZ.out;omega) HA.out).mono ?_
 rintro e w1 ⟨r,rfl,⟨P1,n1,c1,l,rfl,hrow,hln,hl1,hll⟩,hc,hbt⟩
 have HXE:=jq (hbt.bk HXE.out HYK.out)
 have HE:=jq (HE.out.but hbt HC.out.lt)
 have HXI:=jq (hbt.bk HXI.out HYI.out)
 have HLB:=jq (HLB.out.but hbt HC.out.lt)
 have HBT:=jq (HBT.out.trans hbt)
 have HC:=jq hc
 obtain rfl:=hll s rfl
 have HRW:=jq hrow
 have HL1:=jq hln
 have HL2:=jq hl1
 clear hc hbt hrow hln hl1 hll
 generalize labelR A (.ok s)=x1 at *
 generalize labelL A (.ok s)=lb at *
 obtain⟨a0,a1,a2,a3,a4,a5,a6⟩:=zaK HXE.out
 have al:=jl HXE.out
 obtain⟨b0,b1,b4⟩:=cells5 HXI.out
 have bl:=jl HXI.out
 go_wp2_with fail
 clear a0 a1 a2 a3 a4 a5 a6 al b0 b1 b4 bl
 go_loopw [7] (fun i' wr=>∃ (i:Nat) (x:Rs),i'= .int .i64 (i:Int)/\i<=nL/\Cw wr k x z/\But k w wr/\Row elB wr (.slice P1 n1 c1) lb/\LabAt wr k (.slice PL nL cL) LL/\wr.heap[q]? = some (oI 12 A B K (.slice PL nL cL))/\tabR lb LL x1=tabR lb (LL.drop i) x) (fun i' _=>nL - (intOf i').toNat)
 case atStart=>exact ⟨0,x1,by go_num,Nat.zero_le _,HC.out,HBT.out,HRW.out,HLB.out,HXI.out,rfl⟩
 case round=>
  obtain⟨i,x,rfl,hi,hcx,hbw,hrb,hla,hxi,htr⟩:=hrel
  clear HC HBT HRW HLB HXI HXE HE
  have HC:=jq hcx
  have HBT:=jq hbw
  have HRB:=jq hrb
  have HLA:=jq hla
  have HXI:=jq hxi
  have HTR:=jq htr
  clear hcx hbw hrb hla hxi htr
  by_cases hlt:i<nL
  ·obtain ⟨g,off,hPL,hcl⟩:=HLA.out.sl.at_ (j:=i) (by rw[HNL.out];exact hlt)
   have hdr:=drop_at (L:=LL) (i:=i) (by rw[HNL.out];exact hlt)
   obtain⟨u,hu⟩:∃u,LL.getD i 0=u:=⟨_,rfl⟩
   have hw:w64 u:=HWL.out u (by rw[<- hu,List.getD_eq_getElem?_getD,List.getElem?_eq_getElem (by rw[HNL.out];exact hlt)];exact List.getElem_mem _)
   rw[hu] at hdr hcl
   have HDR:=jq hdr
   have HWU:=jq hw
   have i1:(0:Int)<=(i:Int):=by omega
   have i2:(i:Int)<(nL:Int):=by omega
   have hw1:IntKind.i64.wrap ((i:Int)+1)=(i:Int)+1:=IntWalk.i64_in _ (by have:=HLN.out;omega)
   obtain⟨b0,b1,b4⟩:=cells5 HXI.out
   have bl:=jl HXI.out
   rw[hPL] at b4
   clear hdr hw hu hPL
   go_wp2_with fail
   clear hcl b0 b1 b4 bl
   refine(label_wk HC.out (by have:=HZ.out;omega) HWU.out).mono ?_
   rintro e w2 ⟨r,rfl,⟨P2,n2,c2,l2,rfl,hr2,hn2,hl2,hll2⟩,hc,hbt⟩
   have HXI:=jq (hbt.bk HXI.out HYI.out)
   have HRB:=jq (zaG HRB.out HC.out.nobb hbt)
   have HLA:=jq (HLA.out.but hbt HC.out.lt)
   have HBT:=jq (HBT.out.trans hbt)
   have HC:=jq hc
   have HR2:=jq hr2
   have HLQ:=jq (need_lab (lb:=lb) hll2)
   clear hc hbt hr2 hll2 hn2 hl2
   have e1:=run_txt HR2.out
   have e2:=run_txt HRB.out
   have e3:=str_beq HR2.out.2 HRB.out.2
   generalize decide (l2=lb)=qq at *
   generalize strOfNums l2=S1 at *
   generalize strOfNums lb=S2 at *
   go_wp2_with fail
   clear e1 e2 e3
   refine(must_wk (b:=qq) HC.out (.inl (by decide))).mono ?_
   rintro e w3 ⟨rfl,hc,hbt⟩
   rw[HLQ.out] at hc
   have HXI:=jq (hbt.bk HXI.out HYI.out)
   have HRB:=jq (zaG HRB.out HC.out.nobb hbt)
   have HLA:=jq (HLA.out.but hbt HC.out.lt)
   have HBT:=jq (HBT.out.trans hbt)
   have HC:=jq hc
   clear hc hbt
   go_wp2_with fail
   go_roundw
   case rel=>exact ⟨i+1,_,by go_num,hlt,HC.out,HBT.out,HRB.out,HLA.out,HXI.out,by rw[HTR.out,HDR.out];rfl⟩
   case measure=>simp[intOf];omega
  ·obtain rfl:i=nL:=by omega
   have HTT:Hid (tabR lb LL x1=x):=by
    show _=_
    rw[HTR.out,List.drop_of_length_le (by rw[HNL.out];exact Nat.le_refl _)]
    rfl
   rw[HTT.out] at HD
   obtain⟨b0,b1,b4⟩:=cells5 HXI.out
   have bl:=jl HXI.out
   go_wp2_with fail
   clear b0 b1 b4 bl
   refine(want_wk HC.out (by have:=HZ.out;omega) HRB.out (by have:=HL1.out;have:=HL2.out;omega)).mono ?_
   rintro e w2 ⟨rfl,hc,hbt⟩
   have HXI:=jq (hbt.bk HXI.out HYI.out)
   have HRB:=jq (zaG HRB.out HC.out.nobb hbt)
   have HBT:=jq (HBT.out.trans hbt)
   have HC:=jq hc
   clear hc hbt
   obtain⟨b0,b1,b4⟩:=cells5 HXI.out
   have bl:=jl HXI.out
   go_wp2_with fail
   clear b0 b1 b4 bl
   refine(kill_wk HC.out (by have:=HZ.out;omega)).mono ?_
   rintro e w3 ⟨rfl,hc,hbt⟩
   have HXI:=jq (hbt.bk HXI.out HYI.out)
   have HBT:=jq (HBT.out.trans hbt)
   have HC:=jq hc
   clear hc hbt
   go_wp2_with fail
   exact bodyPost_end (v:=.tuple #[]) (by simp[results,Tryz.results34,go_sem]) rfl ⟨rfl,by rw[<- HD.out];exact HC.out.mono (by omega),HBT.out⟩
theorem branch_13 {w:World}{k:Nat}{z:Nat}{V:EV}{E:EnvP}{A B K:Int}{PL:Option Addr}{nL cL:Nat}{LL:List Int}{s:Stk}(h:Cw w k (.ok s) z)(hz:z<=300000)(hE:EvAt w k V E)(hL:LabAt w k (.slice PL nL cL) LL)(hnL:LL.length=nL)(hn:nL<=1000000)(hW:∀i∈LL,w64 i)(hA:w64 A):Calls Tryz.prog 34 #[.pointer (some ⟨k,0,none⟩),(.agg #[.slice V.Pt V.nt V.ct,.slice V.Pf V.nf V.cf,.int .i64 E.tables,.int .i64 E.mems,.slice V.Pg V.ng V.cg,.slice V.Pl V.nl V.cl,.slice V.Pr V.nr V.cr]),.agg #[.int .i64 13,.int .i64 A,.int .i64 B,.int .u64 K,.slice PL nL cL]] w (CwEnds w k (pushR (labelL A (.ok s)) (wantR (labelL A (.ok s)) (wantR [127] (tabR (labelL A (.ok s)) LL (labelR A (.ok s)))))) (z+1) (.tuple #[])):=by
 obtain⟨Y,hY⟩:∃Y,(pushR (labelL A (.ok s)) (wantR (labelL A (.ok s)) (wantR [127] (tabR (labelL A (.ok s)) LL (labelR A (.ok s))))))=Y:=⟨_,rfl⟩
 rw[hY]
 have HD:=jq hY
 clear hY
 have HLB:=jq (hL.keep (below2 w (oE V E) (oI 13 A B K (.slice PL nL cL))))
 have HLN:=jq hn
 have HNL:=jq hnL
 have HWL:=jq hW
 have HA:=jq hA
 have HBX:=jq (below2 w (oE V E) (oI 13 A B K (.slice PL nL cL)))
 have HXE:=jq (blk (zaC w (oE V E)) (zaB (w.alloc (oE V E)) (oI 13 A B K (.slice PL nL cL))))
 have HXI:=jq (zaC (w.alloc (oE V E)) (oI 13 A B K (.slice PL nL cL)))
 rw[zaD] at HXI
 have HE:=jq (hE.keep HBX.out)
 have HYK:Hid (w.heap.size≠k):=jq (by have:=h.lt;omega)
 have HYI:Hid (w.heap.size+1≠k):=jq (by have:=h.lt;omega)
 have HC:=jq (h.keep HBX.out)
 have HBT:Hid (But k w ((w.alloc (oE V E)).alloc (oI 13 A B K (.slice PL nL cL)))):=But.of_below HBX.out
 have HZ:=jq hz
 clear h hz hE hL hnL hn hW hA
 obtain⟨a0,a1,a2,a3,a4,a5,a6⟩:=zaK HXE.out
 have al:=jl HXE.out
 obtain⟨b0,b1,b4⟩:=cells5 HXI.out
 have bl:=jl HXI.out
 go_enter Tryz.func34,Tryz.ntmps34
 go_wp2_with fail
 clear a0 a1 a2 a3 a4 a5 a6 al b0 b1 b4 bl
 generalize (w.alloc (oE V E)).alloc (oI 13 A B K (.slice PL nL cL))=u0 at *
 obtain⟨y,hy⟩:∃y,w.heap.size=y:=⟨_,rfl⟩
 rw[hy] at HXE HXI HYK HYI
 simp only[hy]
 obtain⟨q,hq⟩:∃q,y+1=q:=⟨_,rfl⟩
 rw[hq] at HXI HYI
 simp only[hq]
 clear hy hq HBX
 refine(label_wk HC.out (by have:=HZ.out;omega) HA.out).mono ?_
 rintro e w1 ⟨r,rfl,⟨P1,n1,c1,l,rfl,hrow,hln,hl1,hll⟩,hc,hbt⟩
 have HXE:=jq (hbt.bk HXE.out HYK.out)
 have HE:=jq (HE.out.but hbt HC.out.lt)
 have HXI:=jq (hbt.bk HXI.out HYI.out)
 have HLB:=jq (HLB.out.but hbt HC.out.lt)
 have HBT:=jq (HBT.out.trans hbt)
 have HC:=jq hc
 obtain rfl:=hll s rfl
 have HRW:=jq hrow
 have HL1:=jq hln
 have HL2:=jq hl1
 clear hc hbt hrow hln hl1 hll
 generalize labelR A (.ok s)=x1 at *
 generalize labelL A (.ok s)=lb at *
 obtain⟨a0,a1,a2,a3,a4,a5,a6⟩:=zaK HXE.out
 have al:=jl HXE.out
 obtain⟨b0,b1,b4⟩:=cells5 HXI.out
 have bl:=jl HXI.out
 go_wp2_with fail
 clear a0 a1 a2 a3 a4 a5 a6 al b0 b1 b4 bl
 go_loopw [7] (fun i' wr=>∃ (i:Nat) (x:Rs),i'= .int .i64 (i:Int)/\i<=nL/\Cw wr k x z/\But k w wr/\Row elB wr (.slice P1 n1 c1) lb/\LabAt wr k (.slice PL nL cL) LL/\wr.heap[q]? = some (oI 13 A B K (.slice PL nL cL))/\tabR lb LL x1=tabR lb (LL.drop i) x) (fun i' _=>nL - (intOf i').toNat)
 case atStart=>exact ⟨0,x1,by go_num,Nat.zero_le _,HC.out,HBT.out,HRW.out,HLB.out,HXI.out,rfl⟩
 case round=>
  obtain⟨i,x,rfl,hi,hcx,hbw,hrb,hla,hxi,htr⟩:=hrel
  clear HC HBT HRW HLB HXI HXE HE
  have HC:=jq hcx
  have HBT:=jq hbw
  have HRB:=jq hrb
  have HLA:=jq hla
  have HXI:=jq hxi
  have HTR:=jq htr
  clear hcx hbw hrb hla hxi htr
  by_cases hlt:i<nL
  ·obtain ⟨g,off,hPL,hcl⟩:=HLA.out.sl.at_ (j:=i) (by rw[HNL.out];exact hlt)
   have hdr:=drop_at (L:=LL) (i:=i) (by rw[HNL.out];exact hlt)
   obtain⟨u,hu⟩:∃u,LL.getD i 0=u:=⟨_,rfl⟩
   have hw:w64 u:=HWL.out u (by rw[<- hu,List.getD_eq_getElem?_getD,List.getElem?_eq_getElem (by rw[HNL.out];exact hlt)];exact List.getElem_mem _)
   rw[hu] at hdr hcl
   have HDR:=jq hdr
   have HWU:=jq hw
   have i1:(0:Int)<=(i:Int):=by omega
   have i2:(i:Int)<(nL:Int):=by omega
   have hw1:IntKind.i64.wrap ((i:Int)+1)=(i:Int)+1:=IntWalk.i64_in _ (by have:=HLN.out;omega)
   obtain⟨b0,b1,b4⟩:=cells5 HXI.out
   have bl:=jl HXI.out
   rw[hPL] at b4
   clear hdr hw hu hPL
   go_wp2_with fail
   clear hcl b0 b1 b4 bl
   refine(label_wk HC.out (by have:=HZ.out;omega) HWU.out).mono ?_
   rintro e w2 ⟨r,rfl,⟨P2,n2,c2,l2,rfl,hr2,hn2,hl2,hll2⟩,hc,hbt⟩
   have HXI:=jq (hbt.bk HXI.out HYI.out)
   have HRB:=jq (zaG HRB.out HC.out.nobb hbt)
   have HLA:=jq (HLA.out.but hbt HC.out.lt)
   have HBT:=jq (HBT.out.trans hbt)
   have HC:=jq hc
   have HR2:=jq hr2
   have HLQ:=jq (need_lab (lb:=lb) hll2)
   clear hc hbt hr2 hll2 hn2 hl2
   have e1:=run_txt HR2.out
   have e2:=run_txt HRB.out
   have e3:=str_beq HR2.out.2 HRB.out.2
   generalize decide (l2=lb)=qq at *
   generalize strOfNums l2=S1 at *
   generalize strOfNums lb=S2 at *
   go_wp2_with fail
   clear e1 e2 e3
   refine(must_wk (b:=qq) HC.out (.inl (by decide))).mono ?_
   rintro e w3 ⟨rfl,hc,hbt⟩
   rw[HLQ.out] at hc
   have HXI:=jq (hbt.bk HXI.out HYI.out)
   have HRB:=jq (zaG HRB.out HC.out.nobb hbt)
   have HLA:=jq (HLA.out.but hbt HC.out.lt)
   have HBT:=jq (HBT.out.trans hbt)
   have HC:=jq hc
   clear hc hbt
   go_wp2_with fail
   go_roundw
   case rel=>exact ⟨i+1,_,by go_num,hlt,HC.out,HBT.out,HRB.out,HLA.out,HXI.out,by rw[HTR.out,HDR.out];rfl⟩
   case measure=>simp[intOf];omega
  ·obtain rfl:i=nL:=by omega
   have HTT:Hid (tabR lb LL x1=x):=by
    show _=_
    rw[HTR.out,List.drop_of_length_le (by rw[HNL.out];exact Nat.le_refl _)]
    rfl
   rw[HTT.out] at HD
   obtain⟨b0,b1,b4⟩:=cells5 HXI.out
   have bl:=jl HXI.out
   go_wp2_with fail
   clear b0 b1 b4 bl
   refine(i32_wk _).mono ?_
   rintro e w2 ⟨v127,rfl,hr,hb⟩
   have HXI:=jq (blk HXI.out hb)
   have HRB:=jq (HRB.out.keep hb)
   have HBT:=jq (HBT.out.trans (But.of_below hb))
   have HC:=jq (HC.out.keep hb)
   have H127:=jq hr
   clear hb hr
   go_wp2_with fail
   refine(want_wk HC.out (by have:=HZ.out;omega) H127.out (by simp)).mono ?_
   rintro e w3 ⟨rfl,hc,hbt⟩
   have HXI:=jq (hbt.bk HXI.out HYI.out)
   have HRB:=jq (zaG HRB.out HC.out.nobb hbt)
   have HBT:=jq (HBT.out.trans hbt)
   have HC:=jq hc
   clear hc hbt
   obtain⟨b0,b1,b4⟩:=cells5 HXI.out
   have bl:=jl HXI.out
   go_wp2_with fail
   clear b0 b1 b4 bl
   refine(want_wk HC.out (by have:=HZ.out;omega) HRB.out (by have:=HL1.out;have:=HL2.out;omega)).mono ?_
   rintro e w4 ⟨rfl,hc,hbt⟩
   have HXI:=jq (hbt.bk HXI.out HYI.out)
   have HRB:=jq (zaG HRB.out HC.out.nobb hbt)
   have HBT:=jq (HBT.out.trans hbt)
   have HC:=jq hc
   clear hc hbt
   obtain⟨b0,b1,b4⟩:=cells5 HXI.out
   have bl:=jl HXI.out
   go_wp2_with fail
   clear b0 b1 b4 bl
   refine(push_wk (y:=1) HC.out (by have:=HZ.out;omega) HRB.out (by have:=HL1.out;have:=HL2.out;omega) (by omega)).mono ?_
   rintro e w5 ⟨rfl,hc,hbt⟩
   have HXI:=jq (hbt.bk HXI.out HYI.out)
   have HBT:=jq (HBT.out.trans hbt)
   have HC:=jq hc
   clear hc hbt
   go_wp2_with fail
   exact bodyPost_end (v:=.tuple #[]) (by simp[results,Tryz.results34,go_sem]) rfl ⟨rfl,by rw[<- HD.out];exact HC.out,HBT.out⟩
theorem branch_14 {w:World}{k:Nat}{z:Nat}{V:EV}{E:EnvP}{A B K:Int}{PL:Option Addr}{nL cL:Nat}{LL:List Int}{s:Stk}(h:Cw w k (.ok s) z)(hz:z<=300000)(hE:EvAt w k V E)(hL:LabAt w k (.slice PL nL cL) LL)(hnL:LL.length=nL)(hn:nL<=1000000)(hW:∀i∈LL,w64 i)(hA:w64 A):Calls Tryz.prog 34 #[.pointer (some ⟨k,0,none⟩),(.agg #[.slice V.Pt V.nt V.ct,.slice V.Pf V.nf V.cf,.int .i64 E.tables,.int .i64 E.mems,.slice V.Pg V.ng V.cg,.slice V.Pl V.nl V.cl,.slice V.Pr V.nr V.cr]),.agg #[.int .i64 14,.int .i64 A,.int .i64 B,.int .u64 K,.slice PL nL cL]] w (CwEnds w k (killR (wantR (labelL A (.ok s)) (wantR [127] (tabR (labelL A (.ok s)) LL (labelR A (.ok s)))))) (z+1) (.tuple #[])):=by
 obtain⟨Y,hY⟩:∃Y,(killR (wantR (labelL A (.ok s)) (wantR [127] (tabR (labelL A (.ok s)) LL (labelR A (.ok s))))))=Y:=⟨_,rfl⟩
 rw[hY]
 have HD:=jq hY
 clear hY
 have HLB:=jq (hL.keep (below2 w (oE V E) (oI 14 A B K (.slice PL nL cL))))
 have HLN:=jq hn
 have HNL:=jq hnL
 have HWL:=jq hW
 have HA:=jq hA
 have HBX:=jq (below2 w (oE V E) (oI 14 A B K (.slice PL nL cL)))
 have HXE:=jq (blk (zaC w (oE V E)) (zaB (w.alloc (oE V E)) (oI 14 A B K (.slice PL nL cL))))
 have HXI:=jq (zaC (w.alloc (oE V E)) (oI 14 A B K (.slice PL nL cL)))
 rw[zaD] at HXI
 have HE:=jq (hE.keep HBX.out)
 have HYK:Hid (w.heap.size≠k):=jq (by have:=h.lt;omega)
 have HYI:Hid (w.heap.size+1≠k):=jq (by have:=h.lt;omega)
 have HC:=jq (h.keep HBX.out)
 have HBT:Hid (But k w ((w.alloc (oE V E)).alloc (oI 14 A B K (.slice PL nL cL)))):=But.of_below HBX.out
 have HZ:=jq hz
 clear h hz hE hL hnL hn hW hA
 obtain⟨a0,a1,a2,a3,a4,a5,a6⟩:=zaK HXE.out
 have al:=jl HXE.out
 obtain⟨b0,b1,b4⟩:=cells5 HXI.out
 have bl:=jl HXI.out
 go_enter Tryz.func34,Tryz.ntmps34
 go_wp2_with fail
 clear a0 a1 a2 a3 a4 a5 a6 al b0 b1 b4 bl
 generalize (w.alloc (oE V E)).alloc (oI 14 A B K (.slice PL nL cL))=u0 at *
 obtain⟨y,hy⟩:∃y,w.heap.size=y:=⟨_,rfl⟩
 rw[hy] at HXE HXI HYK HYI
 simp only[hy]
 obtain⟨q,hq⟩:∃q,y+1=q:=⟨_,rfl⟩
 rw[hq] at HXI HYI
 simp only[hq]
 clear hy hq HBX
 refine(label_wk HC.out (by have:=HZ.out;omega) HA.out).mono ?_
 rintro e w1 ⟨r,rfl,⟨P1,n1,c1,l,rfl,hrow,hln,hl1,hll⟩,hc,hbt⟩
 have HXE:=jq (hbt.bk HXE.out HYK.out)
 have HE:=jq (HE.out.but hbt HC.out.lt)
 have HXI:=jq (hbt.bk HXI.out HYI.out)
 have HLB:=jq (HLB.out.but hbt HC.out.lt)
 have HBT:=jq (HBT.out.trans hbt)
 have HC:=jq hc
 obtain rfl:=hll s rfl
 have HRW:=jq hrow
 have HL1:=jq hln
 have HL2:=jq hl1
 clear hc hbt hrow hln hl1 hll
 generalize labelR A (.ok s)=x1 at *
 generalize labelL A (.ok s)=lb at *
 obtain⟨a0,a1,a2,a3,a4,a5,a6⟩:=zaK HXE.out
 have al:=jl HXE.out
 obtain⟨b0,b1,b4⟩:=cells5 HXI.out
 have bl:=jl HXI.out
 go_wp2_with fail
 clear a0 a1 a2 a3 a4 a5 a6 al b0 b1 b4 bl
 go_loopw [7] (fun i' wr=>∃ (i:Nat) (x:Rs),i'= .int .i64 (i:Int)/\i<=nL/\Cw wr k x z/\But k w wr/\Row elB wr (.slice P1 n1 c1) lb/\LabAt wr k (.slice PL nL cL) LL/\wr.heap[q]? = some (oI 14 A B K (.slice PL nL cL))/\tabR lb LL x1=tabR lb (LL.drop i) x) (fun i' _=>nL - (intOf i').toNat)
 case atStart=>exact ⟨0,x1,by go_num,Nat.zero_le _,HC.out,HBT.out,HRW.out,HLB.out,HXI.out,rfl⟩
 case round=>
  obtain⟨i,x,rfl,hi,hcx,hbw,hrb,hla,hxi,htr⟩:=hrel
  clear HC HBT HRW HLB HXI HXE HE
  have HC:=jq hcx
  have HBT:=jq hbw
  have HRB:=jq hrb
  have HLA:=jq hla
  have HXI:=jq hxi
  have HTR:=jq htr
  clear hcx hbw hrb hla hxi htr
  by_cases hlt:i<nL
  ·obtain ⟨g,off,hPL,hcl⟩:=HLA.out.sl.at_ (j:=i) (by rw[HNL.out];exact hlt)
   have hdr:=drop_at (L:=LL) (i:=i) (by rw[HNL.out];exact hlt)
   obtain⟨u,hu⟩:∃u,LL.getD i 0=u:=⟨_,rfl⟩
   have hw:w64 u:=HWL.out u (by rw[<- hu,List.getD_eq_getElem?_getD,List.getElem?_eq_getElem (by rw[HNL.out];exact hlt)];exact List.getElem_mem _)
   rw[hu] at hdr hcl
   have HDR:=jq hdr
   have HWU:=jq hw
   have i1:(0:Int)<=(i:Int):=by omega
   have i2:(i:Int)<(nL:Int):=by omega
   have hw1:IntKind.i64.wrap ((i:Int)+1)=(i:Int)+1:=IntWalk.i64_in _ (by have:=HLN.out;omega)
   obtain⟨b0,b1,b4⟩:=cells5 HXI.out
   have bl:=jl HXI.out
   rw[hPL] at b4
   clear hdr hw hu hPL
   go_wp2_with fail
   clear hcl b0 b1 b4 bl
   refine(label_wk HC.out (by have:=HZ.out;omega) HWU.out).mono ?_
   rintro e w2 ⟨r,rfl,⟨P2,n2,c2,l2,rfl,hr2,hn2,hl2,hll2⟩,hc,hbt⟩
   have HXI:=jq (hbt.bk HXI.out HYI.out)
   have HRB:=jq (zaG HRB.out HC.out.nobb hbt)
   have HLA:=jq (HLA.out.but hbt HC.out.lt)
   have HBT:=jq (HBT.out.trans hbt)
   have HC:=jq hc
   have HR2:=jq hr2
   have HLQ:=jq (need_lab (lb:=lb) hll2)
   clear hc hbt hr2 hll2 hn2 hl2
   have e1:=run_txt HR2.out
   have e2:=run_txt HRB.out
   have e3:=str_beq HR2.out.2 HRB.out.2
   generalize decide (l2=lb)=qq at *
   generalize strOfNums l2=S1 at *
   generalize strOfNums lb=S2 at *
   go_wp2_with fail
   clear e1 e2 e3
   refine(must_wk (b:=qq) HC.out (.inl (by decide))).mono ?_
   rintro e w3 ⟨rfl,hc,hbt⟩
   rw[HLQ.out] at hc
   have HXI:=jq (hbt.bk HXI.out HYI.out)
   have HRB:=jq (zaG HRB.out HC.out.nobb hbt)
   have HLA:=jq (HLA.out.but hbt HC.out.lt)
   have HBT:=jq (HBT.out.trans hbt)
   have HC:=jq hc
   clear hc hbt
   go_wp2_with fail
   go_roundw
   case rel=>exact ⟨i+1,_,by go_num,hlt,HC.out,HBT.out,HRB.out,HLA.out,HXI.out,by rw[HTR.out,HDR.out];rfl⟩
   case measure=>simp[intOf];omega
  ·obtain rfl:i=nL:=by omega
   have HTT:Hid (tabR lb LL x1=x):=by
    show _=_
    rw[HTR.out,List.drop_of_length_le (by rw[HNL.out];exact Nat.le_refl _)]
    rfl
   rw[HTT.out] at HD
   obtain⟨b0,b1,b4⟩:=cells5 HXI.out
   have bl:=jl HXI.out
   go_wp2_with fail
   clear b0 b1 b4 bl
   refine(i32_wk _).mono ?_
   rintro e w2 ⟨v127,rfl,hr,hb⟩
   have HXI:=jq (blk HXI.out hb)
   have HRB:=jq (HRB.out.keep hb)
   have HBT:=jq (HBT.out.trans (But.of_below hb))
   have HC:=jq (HC.out.keep hb)
   have H127:=jq hr
   clear hb hr
   go_wp2_with fail
   refine(want_wk HC.out (by have:=HZ.out;omega) H127.out (by simp)).mono ?_
   rintro e w3 ⟨rfl,hc,hbt⟩
   have HXI:=jq (hbt.bk HXI.out HYI.out)
   have HRB:=jq (zaG HRB.out HC.out.nobb hbt)
   have HBT:=jq (HBT.out.trans hbt)
   have HC:=jq hc
   clear hc hbt
   obtain⟨b0,b1,b4⟩:=cells5 HXI.out
   have bl:=jl HXI.out
   go_wp2_with fail
   clear b0 b1 b4 bl
   refine(want_wk HC.out (by have:=HZ.out;omega) HRB.out (by have:=HL1.out;have:=HL2.out;omega)).mono ?_
   rintro e w4 ⟨rfl,hc,hbt⟩
   have HXI:=jq (hbt.bk HXI.out HYI.out)
   have HRB:=jq (zaG HRB.out HC.out.nobb hbt)
   have HBT:=jq (HBT.out.trans hbt)
   have HC:=jq hc
   clear hc hbt
   obtain⟨b0,b1,b4⟩:=cells5 HXI.out
   have bl:=jl HXI.out
   go_wp2_with fail
   clear b0 b1 b4 bl
   refine(kill_wk HC.out (by have:=HZ.out;omega)).mono ?_
   rintro e w5 ⟨rfl,hc,hbt⟩
   have HXI:=jq (hbt.bk HXI.out HYI.out)
   have HBT:=jq (HBT.out.trans hbt)
   have HC:=jq hc
   clear hc hbt
   go_wp2_with fail
   exact bodyPost_end (v:=.tuple #[]) (by simp[results,Tryz.results34,go_sem]) rfl ⟨rfl,by rw[<- HD.out];exact HC.out.mono (by omega),HBT.out⟩
end Go.Proofs.YtlappkflnlbfcaaGreatDoor.Chk
