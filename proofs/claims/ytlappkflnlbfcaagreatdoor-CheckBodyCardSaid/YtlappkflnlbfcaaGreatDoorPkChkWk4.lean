import Derived.Test.YtlappkflnlbfcaaGreatDoorPkChkRStep
import Derived.Test.YtlappkflnlbfcaaGreatDoorPkChkWk3
namespace Go.Proofs.YtlappkflnlbfcaaGreatDoor.Chk
open Lib renaming hid → jq
open Go.RowKit Row9 Stk
set_option maxRecDepth 100000
set_option maxHeartbeats 16000000
set_option linter.unusedVariables false
theorem rstep_M {w:World}{V:EV}{E:EnvP}{op A B K:Int}{PL:Option Addr}{nL cL:Nat}{LL:List Int}{P Q:Option Addr}{n c m d:Nat}{s:Stk}{X:Rs}{Z:Nat}(hE:EnvOk elGD w V E)(hS:StIs elD w (.agg #[.slice P n c,.slice Q m d]) s)(hz:s.vals.length<=290000/\s.cs.length<=290000)(hF:FnBd E)(hL:Ins.SlI w (.slice PL nL cL) LL)(hs:sane s=true)(hi:Ins.saneI ⟨op,A,B,K,LL⟩=true)(hc:(2<=op/\op<=5/\∀ (u:World) (k:Nat),Cw u k (.ok s) 290000->EvAt u k V E->LabAt u k (.slice PL nL cL) LL->Calls Tryz.prog 33 #[.pointer (some ⟨k,0,none⟩),(.agg #[.int .i64 op,.int .i64 A,.int .i64 B,.int .u64 K,.slice PL nL cL])] u (CwEnds u k X Z (.tuple #[])))\/(11<=op/\op<=11/\∀ (u:World) (k:Nat),Cw u k (.ok s) 290000->EvAt u k V E->LabAt u k (.slice PL nL cL) LL->Calls Tryz.prog 33 #[.pointer (some ⟨k,0,none⟩),(.agg #[.int .i64 op,.int .i64 A,.int .i64 B,.int .u64 K,.slice PL nL cL])] u (CwEnds u k X Z (.tuple #[])))\/(12<=op/\op<=15/\∀ (u:World) (k:Nat),Cw u k (.ok s) 290000->EvAt u k V E->LabAt u k (.slice PL nL cL) LL->Calls Tryz.prog 34 #[.pointer (some ⟨k,0,none⟩),evV V E,(.agg #[.int .i64 op,.int .i64 A,.int .i64 B,.int .u64 K,.slice PL nL cL])] u (CwEnds u k X Z (.tuple #[])))\/(16<=op/\op<=17/\∀ (u:World) (k:Nat),Cw u k (.ok s) 290000->EvAt u k V E->LabAt u k (.slice PL nL cL) LL->Calls Tryz.prog 35 #[.pointer (some ⟨k,0,none⟩),evV V E,(.agg #[.int .i64 op,.int .i64 A,.int .i64 B,.int .u64 K,.slice PL nL cL])] u (CwEnds u k X Z (.tuple #[])))\/(18<=op/\op<=27/\∀ (u:World) (k:Nat),Cw u k (.ok s) 290000->EvAt u k V E->LabAt u k (.slice PL nL cL) LL->Calls Tryz.prog 36 #[.pointer (some ⟨k,0,none⟩),(.agg #[.int .i64 op,.int .i64 A,.int .i64 B,.int .u64 K,.slice PL nL cL])] u (CwEnds u k X Z (.tuple #[])))\/(28<=op/\op<=36/\∀ (u:World) (k:Nat),Cw u k (.ok s) 290000->EvAt u k V E->LabAt u k (.slice PL nL cL) LL->Calls Tryz.prog 37 #[.pointer (some ⟨k,0,none⟩),evV V E,(.agg #[.int .i64 op,.int .i64 A,.int .i64 B,.int .u64 K,.slice PL nL cL])] u (CwEnds u k X Z (.tuple #[])))\/(37<=op/\op<=64/\∀ (u:World) (k:Nat),Cw u k (.ok s) 290000->EvAt u k V E->LabAt u k (.slice PL nL cL) LL->Calls Tryz.prog 38 #[.pointer (some ⟨k,0,none⟩),evV V E,(.agg #[.int .i64 op,.int .i64 A,.int .i64 B,.int .u64 K,.slice PL nL cL])] u (CwEnds u k X Z (.tuple #[])))):Calls Tryz.prog 15 #[(.agg #[.slice V.Pt V.nt V.ct,.slice V.Pf V.nf V.cf,.int .i64 E.tables,.int .i64 E.mems,.slice V.Pg V.ng V.cg,.slice V.Pl V.nl V.cl,.slice V.Pr V.nr V.cr]),.agg #[.slice P n c,.slice Q m d],(.agg #[.int .i64 op,.int .i64 A,.int .i64 B,.int .u64 K,.slice PL nL cL])] w (RStepEnds w X):=by
 have HCT:=jq hc
 clear hc
 obtain⟨HBX,HXE,HXS,HXI,HXR⟩:=four (w:=w) (oE V E) (oS P n c Q m d) (oI op A B K (.slice PL nL cL)) (.cells #[.slice none 0 0,.slice none 0 0] 30)
 have HBX:=jq HBX
 have HXE:=jq HXE
 have HXS:=jq HXS
 have HXI:=jq HXI
 have HXR:=jq HXR
 have HE:=jq (hE.keep HBX.out)
 have HST:=jq (hS.keep HBX.out)
 have HLB:=jq (hL.keep HBX.out)
 have HNL:Hid (LL.length=nL):=jq (by obtain ⟨A0,c0,e,_⟩:=hL;injection e with _ e;exact e.symm)
 have HZ:=jq hz
 have HFB:=jq hF
 have HSS:=jq hs
 have HSI:=jq hi
 clear hE hS hz hF hL hs hi
 obtain⟨a0,a1,a2,a3,a4,a5,a6⟩:=zaK HXE.out
 have al:=jl HXE.out
 obtain⟨s0,s1,sp0,sp1⟩:=cells2k HXS.out
 have sl:=jl HXS.out
 obtain⟨b0,b1,b2,b3,b4⟩:=cells5a HXI.out
 have bl:=jl HXI.out
 go_enter Tryz.func15,Tryz.ntmps15
 go_wp2_with fail
 clear a0 a1 a2 a3 a4 a5 a6 al s0 s1 sp0 sp1 sl b0 b1 b2 b3 b4 bl
 generalize ((((w.alloc (oE V E)).alloc (oS P n c Q m d)).alloc (oI op A B K (.slice PL nL cL))).alloc (.cells #[.slice none 0 0,.slice none 0 0] 30))=u0 at *
 obtain⟨y,hy⟩:∃y,w.heap.size=y:=⟨_,rfl⟩
 have HBY:=jq hy
 rw[hy] at HXE HXS HXI HXR
 simp only[hy]
 clear hy
 refine(Stk.rsane_any HST.out).mono ?_
 rintro e w1 ⟨rfl,hb⟩
 rw[HSS.out]
 have HB1:=jq (HBX.out.trans (hb.mono HBX.out.size))
 have HXE:=jq (blk HXE.out hb)
 have HXS:=jq (blk HXS.out hb)
 have HXI:=jq (blk HXI.out hb)
 have HXR:=jq (blk HXR.out hb)
 have HE:=jq (HE.out.keep hb)
 have HST:=jq (HST.out.keep hb)
 have HLB:=jq (HLB.out.keep hb)
 clear hb HBX
 obtain⟨b0,b1,b2,b3,b4⟩:=cells5a HXI.out
 have bl:=jl HXI.out
 go_wp2_with fail
 clear b0 b1 b2 b3 b4 bl
 refine(Ins.rsane_any (x:=⟨op,A,B,K,LL⟩) HLB.out).mono ?_
 rintro e w2 ⟨rfl,hb⟩
 rw[HSI.out]
 have HB1:=jq (HB1.out.trans (hb.mono HB1.out.size))
 have HXE:=jq (blk HXE.out hb)
 have HXS:=jq (blk HXS.out hb)
 have HXI:=jq (blk HXI.out hb)
 have HXR:=jq (blk HXR.out hb)
 have HE:=jq (HE.out.keep hb)
 have HST:=jq (HST.out.keep hb)
 have HLB:=jq (HLB.out.keep hb)
 clear hb
 obtain⟨s0,s1,sp0,sp1⟩:=cells2k HXS.out
 have sl:=jl HXS.out
 obtain⟨b0,b1,b2,b3,b4⟩:=cells5a HXI.out
 have bl:=jl HXI.out
 go_wp2_with fail
 clear s0 s1 sp0 sp1 sl b0 b1 b2 b3 b4 bl
 have HNK:=jq (zaB w2 (.cells #[.slice P n c,.slice Q m d,.int .i64 0] 86))
 have HCK:Hid (Cw (w2.alloc (.cells #[.slice P n c,.slice Q m d,.int .i64 0] 86)) w2.heap.size (.ok s) 290000):=jq ⟨⟨P,n,c,Q,m,d,s,zaC _ _,HST.out.keep HNK.out,HSS.out,HZ.out.1,HZ.out.2,fun t ht=>by injection ht with ht;exact ht.symm⟩,fun e he=>by cases he⟩
 have HEV:Hid (EvAt (w2.alloc (.cells #[.slice P n c,.slice Q m d,.int .i64 0] 86)) w2.heap.size V E):=jq ⟨w2,HE.out,Nat.le_refl _,HNK.out⟩
 have HLA:Hid (LabAt (w2.alloc (.cells #[.slice P n c,.slice Q m d,.int .i64 0] 86)) w2.heap.size (.slice PL nL cL) LL):=jq ⟨w2,HLB.out,Nat.le_refl _,HNK.out⟩
 have HYK:Hid (y+3<w2.heap.size):=jq (jl HXR.out)
 have HXE:=jq (blk HXE.out HNK.out)
 have HXS:=jq (blk HXS.out HNK.out)
 have HST:=jq (HST.out.keep HNK.out)
 have HXI:=jq (blk HXI.out HNK.out)
 have HXR:=jq (blk HXR.out HNK.out)
 have HB2:=jq (HB1.out.trans (HNK.out.mono HB1.out.size))
 have HWK:Hid (w.heap.size<=w2.heap.size):=HB1.out.size
 clear HE HLB HB1 HNK
 generalize w2.alloc (.cells #[.slice P n c,.slice Q m d,.int .i64 0] 86)=u1 at *
 obtain⟨k,hk⟩:∃k,w2.heap.size=k:=⟨_,rfl⟩
 rw[hk] at HCK HEV HLA HYK HWK
 simp only[hk]
 clear hk
 refine((Ints.rshape_is op) _).mono ?_
 rintro e w3 ⟨PS,nS,TS,rfl,hb⟩
 have HXE:=jq (blk HXE.out hb)
 have HXI:=jq (blk HXI.out hb)
 have HXR:=jq (blk HXR.out hb)
 have HXS:=jq (blk HXS.out hb)
 have HST:=jq (HST.out.keep hb)
 have HCK:=jq (HCK.out.keep hb)
 have HEV:=jq (HEV.out.keep hb)
 have HLA:=jq (HLA.out.keep hb)
 have HB2:=jq (HB2.out.trans (hb.mono HB2.out.size))
 clear hb
 obtain⟨a0,a1,a2,a3,a4,a5,a6⟩:=zaK HXE.out
 have al:=jl HXE.out
 obtain⟨b0,b1,b2,b3,b4⟩:=cells5a HXI.out
 have bl:=jl HXI.out
 rcases HCT.out with ⟨o1,o2,hm⟩ | ⟨o1,o2,hm⟩ | ⟨o1,o2,hm⟩ | ⟨o1,o2,hm⟩ | ⟨o1,o2,hm⟩ | ⟨o1,o2,hm⟩ | ⟨o1,o2,hm⟩
 case' inl=>
  have n0:(op == 0)=false:=by simp;omega
  have n1:(op == 1)=false:=by simp;omega
  have y0:decide (op<=5)=true:=decide_eq_true (by omega)
  go_wp2_with fail
  refine(hm _ _ HCK.out HEV.out HLA.out).mono ?_
 case' inr.inl=>
  obtain rfl:op=11:=by omega
  go_wp2_with fail
  refine(hm _ _ HCK.out HEV.out HLA.out).mono ?_
 case' inr.inr.inl=>
  have n0:(op == 0)=false:=by simp;omega
  have n1:(op == 1)=false:=by simp;omega
  have n2:(op == 11)=false:=by simp;omega
  have l0:decide (op<=5)=false:=decide_eq_false (by omega)
  have y0:decide (op<=15)=true:=decide_eq_true (by omega)
  go_wp2_with fail
  refine(hm _ _ HCK.out HEV.out HLA.out).mono ?_
 case' inr.inr.inr.inl=>
  have n0:(op == 0)=false:=by simp;omega
  have n1:(op == 1)=false:=by simp;omega
  have n2:(op == 11)=false:=by simp;omega
  have l0:decide (op<=5)=false:=decide_eq_false (by omega)
  have l1:decide (op<=15)=false:=decide_eq_false (by omega)
  have y0:decide (op<=17)=true:=decide_eq_true (by omega)
  go_wp2_with fail
  refine(hm _ _ HCK.out HEV.out HLA.out).mono ?_
 case' inr.inr.inr.inr.inl=>
  have n0:(op == 0)=false:=by simp;omega
  have n1:(op == 1)=false:=by simp;omega
  have n2:(op == 11)=false:=by simp;omega
  have l0:decide (op<=5)=false:=decide_eq_false (by omega)
  have l1:decide (op<=15)=false:=decide_eq_false (by omega)
  have l2:decide (op<=17)=false:=decide_eq_false (by omega)
  have y0:decide (op<=27)=true:=decide_eq_true (by omega)
  go_wp2_with fail
  refine(hm _ _ HCK.out HEV.out HLA.out).mono ?_
 case' inr.inr.inr.inr.inr.inl=>
  have n0:(op == 0)=false:=by simp;omega
  have n1:(op == 1)=false:=by simp;omega
  have n2:(op == 11)=false:=by simp;omega
  have l0:decide (op<=5)=false:=decide_eq_false (by omega)
  have l1:decide (op<=15)=false:=decide_eq_false (by omega)
  have l2:decide (op<=17)=false:=decide_eq_false (by omega)
  have l3:decide (op<=27)=false:=decide_eq_false (by omega)
  have y0:decide (op<=36)=true:=decide_eq_true (by omega)
  go_wp2_with fail
  refine(hm _ _ HCK.out HEV.out HLA.out).mono ?_
 case' inr.inr.inr.inr.inr.inr=>
  have n0:(op == 0)=false:=by simp;omega
  have n1:(op == 1)=false:=by simp;omega
  have n2:(op == 11)=false:=by simp;omega
  have l0:decide (op<=5)=false:=decide_eq_false (by omega)
  have l1:decide (op<=15)=false:=decide_eq_false (by omega)
  have l2:decide (op<=17)=false:=decide_eq_false (by omega)
  have l3:decide (op<=27)=false:=decide_eq_false (by omega)
  have l4:decide (op<=36)=false:=decide_eq_false (by omega)
  have y0:decide (op<=64)=true:=decide_eq_true (by omega)
  go_wp2_with fail
  refine(hm _ _ HCK.out HEV.out HLA.out).mono ?_
 all_goals (
  clear a0 a1 a2 a3 a4 a5 a6 al b0 b1 b2 b3 b4 bl
  clear hm HCT
  rintro e w4 ⟨rfl,hc,hbt⟩
  have HXR:=jq ((hbt.block (y+3) (jl HXR.out) (by have:=HYK.out;omega)).trans HXR.out)
  have HB:=jq (HB2.out.trans (hbt.below HWK.out HCK.out.lt))
  clear hbt HB2 HEV HLA HCK HXE HXI HXS HST
  obtain⟨⟨P5,n5,c5,Q5,m5,d5,s5,h1,h2,h3,h4,h5,h6⟩,hne⟩:=hc
  obtain⟨c0,c1,c2,p0,p1,p2⟩:=cells3 h1
  have kl:=jl h1
  obtain⟨r0,r1,rp0,rp1⟩:=cells2k HXR.out
  have rl:=jl HXR.out
  have HS5:=jq h2
  have hrk:y+3≠k:=by have:=HYK.out;omega
  have hkr:k≠y+3:=by omega
  cases X with
  | er ee=>
   have HNE:=jq (hne ee rfl)
   have t1:(ee == 0)=false:=by simpa using HNE.out
   have t2:(ee != 0)=true:=by simpa using HNE.out
   simp only[Rs.code] at c2
   clear h1 h2 h3 h4 h5 h6 hne
   go_wp2_with fail
   go_region
   all_goals (
    go_wp2_with fail
    have hy:=HBY.out
    have hx:(((w4.setCell ⟨y+3,0,none⟩ (.slice none 0 0)).setCell ⟨y+3,1,none⟩ (.slice none 0 0)).drew).heap[y+3]? = some (.cells #[.slice none 0 0,.slice none 0 0] 30 (0,0)):=zaE (zaE HXR.out (i:=0) (.slice none 0 0)) (i:=1) (.slice none 0 0)
    obtain⟨q0,q1⟩:_/\_:=⟨(zaA hx 0).1,(zaA hx 1).1⟩
    exact bodyPost_ret (v:=.tuple #[.agg #[.slice none 0 0,.slice none 0 0],.int .i64 ee]) (by simp[results,Tryz.results15,go_sem,q0,q1]) rfl ⟨⟨HNE.out,rfl⟩,below_drw ((HB.out.setCell (p:=⟨y+3,0,none⟩) (by show w.heap.size<=y+3;omega) _).setCell (p:=⟨y+3,1,none⟩) (by show w.heap.size<=y+3;omega) _)⟩)
  | ok s6=>
   obtain rfl:=h6 s6 rfl
   simp only[Rs.code] at c2
   clear h1 h2 h3 h4 h5 h6 hne
   go_wp2_with fail
   have hy:=HBY.out
   have hbz:But (y+3) w4 ((w4.setCell ⟨y+3,0,none⟩ (.slice P5 n5 c5)).setCell ⟨y+3,1,none⟩ (.slice Q5 m5 d5)):=((But.refl _ w4).setCell 0 _).setCell 1 _
   have hx:=zaE (zaE HXR.out (i:=0) (.slice P5 n5 c5)) (i:=1) (.slice Q5 m5 d5)
   obtain⟨q0,q1⟩:_/\_:=⟨(zaA hx 0).1,(zaA hx 1).1⟩
   exact bodyPost_ret (v:=.tuple #[.agg #[.slice P5 n5 c5,.slice Q5 m5 d5],.int .i64 0]) (by simp[results,Tryz.results15,go_sem,q0,q1]) rfl ⟨⟨_,rfl,StIs.apart (e:=76) (hi:=infoD) HS5.out (nobb_st HXR.out) hbz⟩,(HB.out.setCell (p:=⟨y+3,0,none⟩) (by show w.heap.size<=y+3;omega) _).setCell (p:=⟨y+3,1,none⟩) (by show w.heap.size<=y+3;omega) _⟩)
theorem sh_0:wrap64 (2 ^ min (IntKind.u64.wrap (bits BinOp.and IntKind.i64 0 3)).toNat 64)=1:=by kernel_rfl
theorem sh_1:wrap64 (2 ^ min (IntKind.u64.wrap (bits BinOp.and IntKind.i64 1 3)).toNat 64)=2:=by kernel_rfl
theorem sh_2:wrap64 (2 ^ min (IntKind.u64.wrap (bits BinOp.and IntKind.i64 2 3)).toNat 64)=4:=by kernel_rfl
theorem sh_3:wrap64 (2 ^ min (IntKind.u64.wrap (bits BinOp.and IntKind.i64 3 3)).toNat 64)=8:=by kernel_rfl
theorem memory_63 {w:World}{k:Nat}{x:Rs}{z:Nat}{V:EV}{E:EnvP}{A B K:Int}{lab:Value}(h:Cw w k x z)(hz:z<=300000)(hE:EvAt w k V E):Calls Tryz.prog 38 #[.pointer (some ⟨k,0,none⟩),(.agg #[.slice V.Pt V.nt V.ct,.slice V.Pf V.nf V.cf,.int .i64 E.tables,.int .i64 E.mems,.slice V.Pg V.ng V.cg,.slice V.Pl V.nl V.cl,.slice V.Pr V.nr V.cr]),.agg #[.int .i64 63,.int .i64 A,.int .i64 B,.int .u64 K,lab]] w (CwEnds w k (pushR [127] ((needR (decide (0<E.mems)) 6 x))) (z+1) (.tuple #[])):=by
 obtain⟨Y,hY⟩:∃Y,(pushR [127] ((needR (decide (0<E.mems)) 6 x)))=Y:=⟨_,rfl⟩
 rw[hY]
 have HD:=jq hY
 clear hY
 have HBX:=jq (below2 w (oE V E) (oI 63 A B K lab))
 have HXE:=jq (blk (zaC w (oE V E)) (zaB (w.alloc (oE V E)) (oI 63 A B K lab)))
 have HXI:=jq (zaC (w.alloc (oE V E)) (oI 63 A B K lab))
 rw[zaD] at HXI
 have HE:=jq (hE.keep HBX.out)
 have HYK:Hid (w.heap.size≠k):=jq (by have:=h.lt;omega)
 have HYI:Hid (w.heap.size+1≠k):=jq (by have:=h.lt;omega)
 have HC:=jq (h.keep HBX.out)
 have HBT:Hid (But k w ((w.alloc (oE V E)).alloc (oI 63 A B K lab))):=But.of_below HBX.out
 have HZ:=jq hz
 clear h hz hE
 obtain⟨a0,a1,a2,a3,a4,a5,a6⟩:=zaK HXE.out
 have al:=jl HXE.out
 obtain⟨b0,b1,b4⟩:=cells5 HXI.out
 have bl:=jl HXI.out
 go_enter Tryz.func38,Tryz.ntmps38
 go_wp2_with fail
 clear a0 a1 a2 a3 a4 a5 a6 al b0 b1 b4 bl
 generalize (w.alloc (oE V E)).alloc (oI 63 A B K lab)=u0 at *
 obtain⟨y,hy⟩:∃y,w.heap.size=y:=⟨_,rfl⟩
 rw[hy] at HXE HXI HYK HYI
 simp only[hy]
 obtain⟨q,hq⟩:∃q,y+1=q:=⟨_,rfl⟩
 rw[hq] at HXI HYI
 simp only[hq]
 clear hy hq HBX
 refine(must_wk (b:=decide (0<E.mems)) HC.out (.inl (by decide))).mono ?_
 rintro e w1 ⟨rfl,hc,hbt⟩
 have HXE:=jq (hbt.bk HXE.out HYK.out)
 have HE:=jq (HE.out.but hbt HC.out.lt)
 have HXI:=jq (hbt.bk HXI.out HYI.out)
 have HBT:=jq (HBT.out.trans hbt)
 have HC:=jq hc
 clear hc hbt
 obtain⟨a0,a1,a2,a3,a4,a5,a6⟩:=zaK HXE.out
 have al:=jl HXE.out
 obtain⟨b0,b1,b4⟩:=cells5 HXI.out
 have bl:=jl HXI.out
 go_wp2_with fail
 clear a0 a1 a2 a3 a4 a5 a6 al b0 b1 b4 bl
 refine(Ins.raccess_any 63 _).mono ?_
 rintro e w2 ⟨rfl,hw⟩
 subst hw
 obtain⟨a0,a1,a2,a3,a4,a5,a6⟩:=zaK HXE.out
 have al:=jl HXE.out
 obtain⟨b0,b1,b4⟩:=cells5 HXI.out
 have bl:=jl HXI.out
 obtain⟨r1,r2,r3,r4⟩:=Ins.ax 63
 go_wp2_with fail
 clear a0 a1 a2 a3 a4 a5 a6 al b0 b1 b4 bl
 refine(i32_wk _).mono ?_
 rintro e w2 ⟨v127,rfl,hr,hb⟩
 have HXE:=jq (blk HXE.out hb)
 have HE:=jq (HE.out.keep hb)
 have HXI:=jq (blk HXI.out hb)
 have HBT:=jq (HBT.out.trans (But.of_below hb))
 have HC:=jq (HC.out.keep hb)
 have H127:=jq hr
 clear hb hr
 go_wp2_with fail
 refine(push_wk (y:=1) HC.out (by have:=HZ.out;omega) H127.out (by simp) (by omega)).mono ?_
 rintro e w3 ⟨rfl,hc,hbt⟩
 have HXE:=jq (hbt.bk HXE.out HYK.out)
 have HE:=jq (HE.out.but hbt HC.out.lt)
 have HXI:=jq (hbt.bk HXI.out HYI.out)
 have HBT:=jq (HBT.out.trans hbt)
 have HC:=jq hc
 clear hc hbt
 go_wp2_with fail
 exact bodyPost_end (v:=.tuple #[]) (by simp[results,Tryz.results38,go_sem]) rfl ⟨rfl,by rw[<- HD.out];exact HC.out,HBT.out⟩
theorem memory_64 {w:World}{k:Nat}{x:Rs}{z:Nat}{V:EV}{E:EnvP}{A B K:Int}{lab:Value}(h:Cw w k x z)(hz:z<=300000)(hE:EvAt w k V E):Calls Tryz.prog 38 #[.pointer (some ⟨k,0,none⟩),(.agg #[.slice V.Pt V.nt V.ct,.slice V.Pf V.nf V.cf,.int .i64 E.tables,.int .i64 E.mems,.slice V.Pg V.ng V.cg,.slice V.Pl V.nl V.cl,.slice V.Pr V.nr V.cr]),.agg #[.int .i64 64,.int .i64 A,.int .i64 B,.int .u64 K,lab]] w (CwEnds w k (pushR [127] (wantR [127] (needR (decide (0<E.mems)) 6 x))) (z+1) (.tuple #[])):=by
 obtain⟨Y,hY⟩:∃Y,(pushR [127] (wantR [127] (needR (decide (0<E.mems)) 6 x)))=Y:=⟨_,rfl⟩
 rw[hY]
 have HD:=jq hY
 clear hY
 have HBX:=jq (below2 w (oE V E) (oI 64 A B K lab))
 have HXE:=jq (blk (zaC w (oE V E)) (zaB (w.alloc (oE V E)) (oI 64 A B K lab)))
 have HXI:=jq (zaC (w.alloc (oE V E)) (oI 64 A B K lab))
 rw[zaD] at HXI
 have HE:=jq (hE.keep HBX.out)
 have HYK:Hid (w.heap.size≠k):=jq (by have:=h.lt;omega)
 have HYI:Hid (w.heap.size+1≠k):=jq (by have:=h.lt;omega)
 have HC:=jq (h.keep HBX.out)
 have HBT:Hid (But k w ((w.alloc (oE V E)).alloc (oI 64 A B K lab))):=But.of_below HBX.out
 have HZ:=jq hz
 clear h hz hE
 obtain⟨a0,a1,a2,a3,a4,a5,a6⟩:=zaK HXE.out
 have al:=jl HXE.out
 obtain⟨b0,b1,b4⟩:=cells5 HXI.out
 have bl:=jl HXI.out
 go_enter Tryz.func38,Tryz.ntmps38
 go_wp2_with fail
 clear a0 a1 a2 a3 a4 a5 a6 al b0 b1 b4 bl
 generalize (w.alloc (oE V E)).alloc (oI 64 A B K lab)=u0 at *
 obtain⟨y,hy⟩:∃y,w.heap.size=y:=⟨_,rfl⟩
 rw[hy] at HXE HXI HYK HYI
 simp only[hy]
 obtain⟨q,hq⟩:∃q,y+1=q:=⟨_,rfl⟩
 rw[hq] at HXI HYI
 simp only[hq]
 clear hy hq HBX
 refine(must_wk (b:=decide (0<E.mems)) HC.out (.inl (by decide))).mono ?_
 rintro e w1 ⟨rfl,hc,hbt⟩
 have HXE:=jq (hbt.bk HXE.out HYK.out)
 have HE:=jq (HE.out.but hbt HC.out.lt)
 have HXI:=jq (hbt.bk HXI.out HYI.out)
 have HBT:=jq (HBT.out.trans hbt)
 have HC:=jq hc
 clear hc hbt
 obtain⟨a0,a1,a2,a3,a4,a5,a6⟩:=zaK HXE.out
 have al:=jl HXE.out
 obtain⟨b0,b1,b4⟩:=cells5 HXI.out
 have bl:=jl HXI.out
 go_wp2_with fail
 clear a0 a1 a2 a3 a4 a5 a6 al b0 b1 b4 bl
 refine(Ins.raccess_any 64 _).mono ?_
 rintro e w2 ⟨rfl,hw⟩
 subst hw
 obtain⟨a0,a1,a2,a3,a4,a5,a6⟩:=zaK HXE.out
 have al:=jl HXE.out
 obtain⟨b0,b1,b4⟩:=cells5 HXI.out
 have bl:=jl HXI.out
 obtain⟨r1,r2,r3,r4⟩:=Ins.ax 64
 go_wp2_with fail
 clear a0 a1 a2 a3 a4 a5 a6 al b0 b1 b4 bl
 refine(i32_wk _).mono ?_
 rintro e w2 ⟨v127,rfl,hr,hb⟩
 have HXE:=jq (blk HXE.out hb)
 have HE:=jq (HE.out.keep hb)
 have HXI:=jq (blk HXI.out hb)
 have HBT:=jq (HBT.out.trans (But.of_below hb))
 have HC:=jq (HC.out.keep hb)
 have H127:=jq hr
 clear hb hr
 go_wp2_with fail
 refine(want_wk HC.out (by have:=HZ.out;omega) H127.out (by simp)).mono ?_
 rintro e w3 ⟨rfl,hc,hbt⟩
 have HXE:=jq (hbt.bk HXE.out HYK.out)
 have HE:=jq (HE.out.but hbt HC.out.lt)
 have HXI:=jq (hbt.bk HXI.out HYI.out)
 have HBT:=jq (HBT.out.trans hbt)
 have HC:=jq hc
 clear hc hbt
 go_wp2_with fail
 refine(i32_wk _).mono ?_
 rintro e w4 ⟨v127,rfl,hr,hb⟩
 have HXE:=jq (blk HXE.out hb)
 have HE:=jq (HE.out.keep hb)
 have HXI:=jq (blk HXI.out hb)
 have HBT:=jq (HBT.out.trans (But.of_below hb))
 have HC:=jq (HC.out.keep hb)
 have H127:=jq hr
 clear hb hr
 go_wp2_with fail
 refine(push_wk (y:=1) HC.out (by have:=HZ.out;omega) H127.out (by simp) (by omega)).mono ?_
 rintro e w5 ⟨rfl,hc,hbt⟩
 have HXE:=jq (hbt.bk HXE.out HYK.out)
 have HE:=jq (HE.out.but hbt HC.out.lt)
 have HXI:=jq (hbt.bk HXI.out HYI.out)
 have HBT:=jq (HBT.out.trans hbt)
 have HC:=jq hc
 clear hc hbt
 go_wp2_with fail
 exact bodyPost_end (v:=.tuple #[]) (by simp[results,Tryz.results38,go_sem]) rfl ⟨rfl,by rw[<- HD.out];exact HC.out,HBT.out⟩
theorem memory_aN {w:World}{k:Nat}{x:Rs}{z:Nat}{V:EV}{E:EnvP}{op A B K G:Int}{lab:Value}(h:Cw w k x z)(hz:z<=300000)(hE:EvAt w k V E)(hk:Ins.kd op=6)(hA:A<=3)(hG:wrap64 (2 ^ min (IntKind.u64.wrap (bits BinOp.and IntKind.i64 A 3)).toNat 64)=G):Calls Tryz.prog 38 #[.pointer (some ⟨k,0,none⟩),(.agg #[.slice V.Pt V.nt V.ct,.slice V.Pf V.nf V.cf,.int .i64 E.tables,.int .i64 E.mems,.slice V.Pg V.ng V.cg,.slice V.Pl V.nl V.cl,.slice V.Pr V.nr V.cr]),.agg #[.int .i64 op,.int .i64 A,.int .i64 B,.int .u64 K,lab]] w (CwEnds w k (if (Ins.ax op).2.2.2=true then wantR [127,(Ins.ax op).1] (needR (decide (G<=(Ins.ax op).2.1)) 5 (needR (decide (0<E.mems)) 6 x)) else pushR [(Ins.ax op).1] (wantR [127] (needR (decide (G<=(Ins.ax op).2.1)) 5 (needR (decide (0<E.mems)) 6 x)))) (z+1) (.tuple #[])):=by
 obtain⟨Y,hY⟩:∃Y,(if (Ins.ax op).2.2.2=true then wantR [127,(Ins.ax op).1] (needR (decide (G<=(Ins.ax op).2.1)) 5 (needR (decide (0<E.mems)) 6 x)) else pushR [(Ins.ax op).1] (wantR [127] (needR (decide (G<=(Ins.ax op).2.1)) 5 (needR (decide (0<E.mems)) 6 x))))=Y:=⟨_,rfl⟩
 rw[hY]
 have HD:=jq hY
 clear hY
 have HS6:=jq (ax_six hk)
 have ho:op≠63/\op≠64:=by
  constructor <;> (intro e;subst e;exact absurd hk (by decide))
 have t1:(op == 63)=false:=by simpa using ho.1
 have t2:(op == 64)=false:=by simpa using ho.2
 have HT1:=jq t1
 have HT2:=jq t2
 have HA:=jq hA
 have HG:=jq hG
 have HBX:=jq (below2 w (oE V E) (oI op A B K lab))
 have HXE:=jq (blk (zaC w (oE V E)) (zaB (w.alloc (oE V E)) (oI op A B K lab)))
 have HXI:=jq (zaC (w.alloc (oE V E)) (oI op A B K lab))
 rw[zaD] at HXI
 have HE:=jq (hE.keep HBX.out)
 have HYK:Hid (w.heap.size≠k):=jq (by have:=h.lt;omega)
 have HYI:Hid (w.heap.size+1≠k):=jq (by have:=h.lt;omega)
 have HC:=jq (h.keep HBX.out)
 have HBT:Hid (But k w ((w.alloc (oE V E)).alloc (oI op A B K lab))):=But.of_below HBX.out
 have HZ:=jq hz
 clear h hz hE hk ho t1 t2 hA hG
 obtain⟨a0,a1,a2,a3,a4,a5,a6⟩:=zaK HXE.out
 have al:=jl HXE.out
 obtain⟨b0,b1,b4⟩:=cells5 HXI.out
 have bl:=jl HXI.out
 go_enter Tryz.func38,Tryz.ntmps38
 go_wp2_with fail
 clear a0 a1 a2 a3 a4 a5 a6 al b0 b1 b4 bl
 generalize (w.alloc (oE V E)).alloc (oI op A B K lab)=u0 at *
 obtain⟨y,hy⟩:∃y,w.heap.size=y:=⟨_,rfl⟩
 rw[hy] at HXE HXI HYK HYI
 simp only[hy]
 obtain⟨q,hq⟩:∃q,y+1=q:=⟨_,rfl⟩
 rw[hq] at HXI HYI
 simp only[hq]
 clear hy hq HBX
 refine(must_wk (b:=decide (0<E.mems)) HC.out (.inl (by decide))).mono ?_
 rintro e w1 ⟨rfl,hc,hbt⟩
 have HXE:=jq (hbt.bk HXE.out HYK.out)
 have HE:=jq (HE.out.but hbt HC.out.lt)
 have HXI:=jq (hbt.bk HXI.out HYI.out)
 have HBT:=jq (HBT.out.trans hbt)
 have HC:=jq hc
 clear hc hbt
 obtain⟨a0,a1,a2,a3,a4,a5,a6⟩:=zaK HXE.out
 have al:=jl HXE.out
 obtain⟨b0,b1,b4⟩:=cells5 HXI.out
 have bl:=jl HXI.out
 go_wp2_with fail
 clear a0 a1 a2 a3 a4 a5 a6 al b0 b1 b4 bl
 refine(Ins.raccess_any op _).mono ?_
 rintro e w2 ⟨rfl,hw⟩
 subst hw
 obtain⟨a0,a1,a2,a3,a4,a5,a6⟩:=zaK HXE.out
 have al:=jl HXE.out
 obtain⟨b0,b1,b4⟩:=cells5 HXI.out
 have bl:=jl HXI.out
 generalize Ins.ax op=ax at *
 obtain⟨tt,n,sg,st⟩:=ax
 simp only at HD HS6
 have HTR:Hid (0<=tt/\tt<256):=jq (by have:=HS6.out.2;omega)
 have t1:=HT1.out
 have t2:=HT2.out
 have t3:decide (A<=3)=true:=decide_eq_true HA.out
 cases st with
 | true=>
  rw[if_pos rfl] at HD
  go_wp2_with fail
  clear a0 a1 a2 a3 a4 a5 a6 al b0 b1 b4 bl
  rw[HG.out]
  refine(must_wk (b:=decide (G<=n)) HC.out (.inl (by decide))).mono ?_
  rintro e w2 ⟨rfl,hc,hbt⟩
  have HXE:=jq (hbt.bk HXE.out HYK.out)
  have HE:=jq (HE.out.but hbt HC.out.lt)
  have HXI:=jq (hbt.bk HXI.out HYI.out)
  have HBT:=jq (HBT.out.trans hbt)
  have HC:=jq hc
  clear hc hbt
  go_wp2_with fail
  have HNW:=jq (zaB w2 (.cells #[.int .u8 127,.int .u8 tt] 5))
  have HLR:=jq (row_lit2 w2 127 tt ⟨by omega,by omega⟩ HTR.out)
  have HXE:=jq (blk HXE.out HNW.out)
  have HE:=jq (HE.out.keep HNW.out)
  have HXI:=jq (blk HXI.out HNW.out)
  have HBT:=jq (HBT.out.trans (But.of_below HNW.out))
  have HC:=jq (HC.out.keep HNW.out)
  clear HNW
  refine(want_wk HC.out (by have:=HZ.out;omega) HLR.out (by simp)).mono ?_
  rintro e w3 ⟨rfl,hc,hbt⟩
  have HXE:=jq (hbt.bk HXE.out HYK.out)
  have HE:=jq (HE.out.but hbt HC.out.lt)
  have HXI:=jq (hbt.bk HXI.out HYI.out)
  have HBT:=jq (HBT.out.trans hbt)
  have HC:=jq hc
  clear hc hbt
  go_wp2_with fail
  exact bodyPost_end (v:=.tuple #[]) (by simp[results,Tryz.results38,go_sem]) rfl ⟨rfl,by rw[<- HD.out];exact HC.out.mono (by omega),HBT.out⟩
 | false=>
  rw[if_neg (by decide)] at HD
  go_wp2_with fail
  clear a0 a1 a2 a3 a4 a5 a6 al b0 b1 b4 bl
  rw[HG.out]
  refine(must_wk (b:=decide (G<=n)) HC.out (.inl (by decide))).mono ?_
  rintro e w2 ⟨rfl,hc,hbt⟩
  have HXE:=jq (hbt.bk HXE.out HYK.out)
  have HE:=jq (HE.out.but hbt HC.out.lt)
  have HXI:=jq (hbt.bk HXI.out HYI.out)
  have HBT:=jq (HBT.out.trans hbt)
  have HC:=jq hc
  clear hc hbt
  go_wp2_with fail
  refine(i32_wk _).mono ?_
  rintro e w3 ⟨v127,rfl,hr,hb⟩
  have HXE:=jq (blk HXE.out hb)
  have HE:=jq (HE.out.keep hb)
  have HXI:=jq (blk HXI.out hb)
  have HBT:=jq (HBT.out.trans (But.of_below hb))
  have HC:=jq (HC.out.keep hb)
  have H127:=jq hr
  clear hb hr
  go_wp2_with fail
  refine(want_wk HC.out (by have:=HZ.out;omega) H127.out (by simp)).mono ?_
  rintro e w4 ⟨rfl,hc,hbt⟩
  have HXE:=jq (hbt.bk HXE.out HYK.out)
  have HE:=jq (HE.out.but hbt HC.out.lt)
  have HXI:=jq (hbt.bk HXI.out HYI.out)
  have HBT:=jq (HBT.out.trans hbt)
  have HC:=jq hc
  clear hc hbt
  go_wp2_with fail
  have HNW:=jq (zaB w4 (.cells #[.int .u8 tt] 5))
  have HLR:=jq (zaL w4 tt HTR.out)
  have HXE:=jq (blk HXE.out HNW.out)
  have HE:=jq (HE.out.keep HNW.out)
  have HXI:=jq (blk HXI.out HNW.out)
  have HBT:=jq (HBT.out.trans (But.of_below HNW.out))
  have HC:=jq (HC.out.keep HNW.out)
  clear HNW
  refine(push_wk (y:=1) HC.out (by have:=HZ.out;omega) HLR.out (by simp) (by omega)).mono ?_
  rintro e w5 ⟨rfl,hc,hbt⟩
  have HXE:=jq (hbt.bk HXE.out HYK.out)
  have HE:=jq (HE.out.but hbt HC.out.lt)
  have HXI:=jq (hbt.bk HXI.out HYI.out)
  have HBT:=jq (HBT.out.trans hbt)
  have HC:=jq hc
  clear hc hbt
  go_wp2_with fail
  exact bodyPost_end (v:=.tuple #[]) (by simp[results,Tryz.results38,go_sem]) rfl ⟨rfl,by rw[<- HD.out];exact HC.out,HBT.out⟩
theorem memory_aA {w:World}{k:Nat}{x:Rs}{z:Nat}{V:EV}{E:EnvP}{op A B K:Int}{lab:Value}(h:Cw w k x z)(hz:z<=300000)(hE:EvAt w k V E)(hk:Ins.kd op=6)(hA:3<A):Calls Tryz.prog 38 #[.pointer (some ⟨k,0,none⟩),(.agg #[.slice V.Pt V.nt V.ct,.slice V.Pf V.nf V.cf,.int .i64 E.tables,.int .i64 E.mems,.slice V.Pg V.ng V.cg,.slice V.Pl V.nl V.cl,.slice V.Pr V.nr V.cr]),.agg #[.int .i64 op,.int .i64 A,.int .i64 B,.int .u64 K,lab]] w (CwEnds w k (if (Ins.ax op).2.2.2=true then wantR [127,(Ins.ax op).1] (needR (false) 5 (needR (decide (0<E.mems)) 6 x)) else pushR [(Ins.ax op).1] (wantR [127] (needR (false) 5 (needR (decide (0<E.mems)) 6 x)))) (z+1) (.tuple #[])):=by
 obtain⟨Y,hY⟩:∃Y,(if (Ins.ax op).2.2.2=true then wantR [127,(Ins.ax op).1] (needR (false) 5 (needR (decide (0<E.mems)) 6 x)) else pushR [(Ins.ax op).1] (wantR [127] (needR (false) 5 (needR (decide (0<E.mems)) 6 x))))=Y:=⟨_,rfl⟩
 rw[hY]
 have HD:=jq hY
 clear hY
 have HS6:=jq (ax_six hk)
 have ho:op≠63/\op≠64:=by
  constructor <;> (intro e;subst e;exact absurd hk (by decide))
 have t1:(op == 63)=false:=by simpa using ho.1
 have t2:(op == 64)=false:=by simpa using ho.2
 have HT1:=jq t1
 have HT2:=jq t2
 have HA:=jq hA
 have HBX:=jq (below2 w (oE V E) (oI op A B K lab))
 have HXE:=jq (blk (zaC w (oE V E)) (zaB (w.alloc (oE V E)) (oI op A B K lab)))
 have HXI:=jq (zaC (w.alloc (oE V E)) (oI op A B K lab))
 rw[zaD] at HXI
 have HE:=jq (hE.keep HBX.out)
 have HYK:Hid (w.heap.size≠k):=jq (by have:=h.lt;omega)
 have HYI:Hid (w.heap.size+1≠k):=jq (by have:=h.lt;omega)
 have HC:=jq (h.keep HBX.out)
 have HBT:Hid (But k w ((w.alloc (oE V E)).alloc (oI op A B K lab))):=But.of_below HBX.out
 have HZ:=jq hz
 clear h hz hE hk ho t1 t2 hA
 obtain⟨a0,a1,a2,a3,a4,a5,a6⟩:=zaK HXE.out
 have al:=jl HXE.out
 obtain⟨b0,b1,b4⟩:=cells5 HXI.out
 have bl:=jl HXI.out
 go_enter Tryz.func38,Tryz.ntmps38
 go_wp2_with fail
 clear a0 a1 a2 a3 a4 a5 a6 al b0 b1 b4 bl
 generalize (w.alloc (oE V E)).alloc (oI op A B K lab)=u0 at *
 obtain⟨y,hy⟩:∃y,w.heap.size=y:=⟨_,rfl⟩
 rw[hy] at HXE HXI HYK HYI
 simp only[hy]
 obtain⟨q,hq⟩:∃q,y+1=q:=⟨_,rfl⟩
 rw[hq] at HXI HYI
 simp only[hq]
 clear hy hq HBX
 refine(must_wk (b:=decide (0<E.mems)) HC.out (.inl (by decide))).mono ?_
 rintro e w1 ⟨rfl,hc,hbt⟩
 have HXE:=jq (hbt.bk HXE.out HYK.out)
 have HE:=jq (HE.out.but hbt HC.out.lt)
 have HXI:=jq (hbt.bk HXI.out HYI.out)
 have HBT:=jq (HBT.out.trans hbt)
 have HC:=jq hc
 clear hc hbt
 obtain⟨a0,a1,a2,a3,a4,a5,a6⟩:=zaK HXE.out
 have al:=jl HXE.out
 obtain⟨b0,b1,b4⟩:=cells5 HXI.out
 have bl:=jl HXI.out
 go_wp2_with fail
 clear a0 a1 a2 a3 a4 a5 a6 al b0 b1 b4 bl
 refine(Ins.raccess_any op _).mono ?_
 rintro e w2 ⟨rfl,hw⟩
 subst hw
 obtain⟨a0,a1,a2,a3,a4,a5,a6⟩:=zaK HXE.out
 have al:=jl HXE.out
 obtain⟨b0,b1,b4⟩:=cells5 HXI.out
 have bl:=jl HXI.out
 generalize Ins.ax op=ax at *
 obtain⟨tt,n,sg,st⟩:=ax
 simp only at HD HS6
 have HTR:Hid (0<=tt/\tt<256):=jq (by have:=HS6.out.2;omega)
 have t1:=HT1.out
 have t2:=HT2.out
 have hA:=HA.out
 have t3:decide (A<=3)=false:=by simpa using hA
 cases st with
 | true=>
  rw[if_pos rfl] at HD
  go_wp2_with fail
  clear a0 a1 a2 a3 a4 a5 a6 al b0 b1 b4 bl
  refine(must_wk (b:=false) HC.out (.inl (by decide))).mono ?_
  rintro e w2 ⟨rfl,hc,hbt⟩
  have HXE:=jq (hbt.bk HXE.out HYK.out)
  have HE:=jq (HE.out.but hbt HC.out.lt)
  have HXI:=jq (hbt.bk HXI.out HYI.out)
  have HBT:=jq (HBT.out.trans hbt)
  have HC:=jq hc
  clear hc hbt
  go_wp2_with fail
  have HNW:=jq (zaB w2 (.cells #[.int .u8 127,.int .u8 tt] 5))
  have HLR:=jq (row_lit2 w2 127 tt ⟨by omega,by omega⟩ HTR.out)
  have HXE:=jq (blk HXE.out HNW.out)
  have HE:=jq (HE.out.keep HNW.out)
  have HXI:=jq (blk HXI.out HNW.out)
  have HBT:=jq (HBT.out.trans (But.of_below HNW.out))
  have HC:=jq (HC.out.keep HNW.out)
  clear HNW
  refine(want_wk HC.out (by have:=HZ.out;omega) HLR.out (by simp)).mono ?_
  rintro e w3 ⟨rfl,hc,hbt⟩
  have HXE:=jq (hbt.bk HXE.out HYK.out)
  have HE:=jq (HE.out.but hbt HC.out.lt)
  have HXI:=jq (hbt.bk HXI.out HYI.out)
  have HBT:=jq (HBT.out.trans hbt)
  have HC:=jq hc
  clear hc hbt
  go_wp2_with fail
  exact bodyPost_end (v:=.tuple #[]) (by simp[results,Tryz.results38,go_sem]) rfl ⟨rfl,by rw[<- HD.out];exact HC.out.mono (by omega),HBT.out⟩
 | false=>
  rw[if_neg (by decide)] at HD
  go_wp2_with fail
  clear a0 a1 a2 a3 a4 a5 a6 al b0 b1 b4 bl
  refine(must_wk (b:=false) HC.out (.inl (by decide))).mono ?_
  rintro e w2 ⟨rfl,hc,hbt⟩
  have HXE:=jq (hbt.bk HXE.out HYK.out)
  have HE:=jq (HE.out.but hbt HC.out.lt)
  have HXI:=jq (hbt.bk HXI.out HYI.out)
  have HBT:=jq (HBT.out.trans hbt)
  have HC:=jq hc
  clear hc hbt
  go_wp2_with fail
  refine(i32_wk _).mono ?_
  rintro e w3 ⟨v127,rfl,hr,hb⟩
  have HXE:=jq (blk HXE.out hb)
  have HE:=jq (HE.out.keep hb)
  have HXI:=jq (blk HXI.out hb)
  have HBT:=jq (HBT.out.trans (But.of_below hb))
  have HC:=jq (HC.out.keep hb)
  have H127:=jq hr
  clear hb hr
  go_wp2_with fail
  refine(want_wk HC.out (by have:=HZ.out;omega) H127.out (by simp)).mono ?_
  rintro e w4 ⟨rfl,hc,hbt⟩
  have HXE:=jq (hbt.bk HXE.out HYK.out)
  have HE:=jq (HE.out.but hbt HC.out.lt)
  have HXI:=jq (hbt.bk HXI.out HYI.out)
  have HBT:=jq (HBT.out.trans hbt)
  have HC:=jq hc
  clear hc hbt
  go_wp2_with fail
  have HNW:=jq (zaB w4 (.cells #[.int .u8 tt] 5))
  have HLR:=jq (zaL w4 tt HTR.out)
  have HXE:=jq (blk HXE.out HNW.out)
  have HE:=jq (HE.out.keep HNW.out)
  have HXI:=jq (blk HXI.out HNW.out)
  have HBT:=jq (HBT.out.trans (But.of_below HNW.out))
  have HC:=jq (HC.out.keep HNW.out)
  clear HNW
  refine(push_wk (y:=1) HC.out (by have:=HZ.out;omega) HLR.out (by simp) (by omega)).mono ?_
  rintro e w5 ⟨rfl,hc,hbt⟩
  have HXE:=jq (hbt.bk HXE.out HYK.out)
  have HE:=jq (HE.out.but hbt HC.out.lt)
  have HXI:=jq (hbt.bk HXI.out HYI.out)
  have HBT:=jq (HBT.out.trans hbt)
  have HC:=jq hc
  clear hc hbt
  go_wp2_with fail
  exact bodyPost_end (v:=.tuple #[]) (by simp[results,Tryz.results38,go_sem]) rfl ⟨rfl,by rw[<- HD.out];exact HC.out,HBT.out⟩
end Go.Proofs.YtlappkflnlbfcaaGreatDoor.Chk
