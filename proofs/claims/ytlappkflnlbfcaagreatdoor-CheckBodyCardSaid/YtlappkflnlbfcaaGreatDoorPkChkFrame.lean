import Derived.Test.YtlappkflnlbfcaaGreatDoorPkChkRStep
import Derived.Test.YtlappkflnlbfcaaGreatDoorPkChkI16
import Derived.Test.YtlappkflnlbfcaaGreatDoorPkChkClose
import Derived.Test.YtlappkflnlbfcaaGreatDoorPkStkFrame
import Derived.Test.YtlappkflnlbfcaaGreatDoorPkInsStab
import Derived.Lib.SmallJoins
import Derived.ProofKit
import Derived.OpenShut
import Derived.Deep.Slices
namespace Go.Proofs.YtlappkflnlbfcaaGreatDoor.Chk
open Go renaming bodyPost_ret → jr
open Lib renaming hid → jq
open Go.RowKit Row9 Stk
set_option maxRecDepth 100000
set_option maxHeartbeats 2000000
set_option linter.unusedVariables false
theorem rstep_65 {w:World}{V:EV}{E:EnvP}{A B K:Int}{PL:Option Addr}{nL cL:Nat}{LL:List Int}{P Q:Option Addr}{n c m d:Nat}{s:Stk}(hE:EnvOk elGD w V E)(hS:StIs elD w (.agg #[.slice P n c,.slice Q m d]) s)(hz:s.vals.length<=290000/\s.cs.length<=290000)(hF:FnBd E)(hL:Ins.SlI w (.slice PL nL cL) LL)(hs:sane s=true)(hi:Ins.saneI ⟨65,A,B,K,LL⟩=true):Calls Tryz.prog 15 #[(.agg #[.slice V.Pt V.nt V.ct,.slice V.Pf V.nf V.cf,.int .i64 E.tables,.int .i64 E.mems,.slice V.Pg V.ng V.cg,.slice V.Pl V.nl V.cl,.slice V.Pr V.nr V.cr]),.agg #[.slice P n c,.slice Q m d],(.agg #[.int .i64 65,.int .i64 A,.int .i64 B,.int .u64 K,.slice PL nL cL])] w (RStepEnds w (pushR [127] (.ok s))):=by
 obtain⟨X,hX⟩:∃X,(pushR [127] (.ok s))=X:=⟨_,rfl⟩
 rw[hX]
 have HXX:=jq hX
 clear hX
 obtain⟨HBX,HXE,HXS,HXI,HXR⟩:=four (w:=w) (oE V E) (oS P n c Q m d) (oI 65 A B K (.slice PL nL cL)) (.cells #[.slice none 0 0,.slice none 0 0] 30)
 have HBX:=jq HBX
 have HXE:=jq HXE
 have HXS:=jq HXS
 have HXI:=jq HXI
 have HXR:=jq HXR
 have HE:=jq (hE.keep HBX.out)
 have HST:=jq (hS.keep HBX.out)
 have HLB:=jq (hL.keep HBX.out)
 have HNL:Hid (LL.length=nL):=jq (by obtain ⟨A0,c0,e,_⟩:=hL;injection e with _ e;exact e.symm)
 have HZ:=jq hz
 have HFB:=jq hF
 have HSS:=jq hs
 have HSI:=jq hi
 clear hE hS hz hF hL hs hi
 obtain⟨a0,a1,a2,a3,a4,a5,a6⟩:=zaK HXE.out
 have al:=jl HXE.out
 obtain⟨s0,s1,sp0,sp1⟩:=cells2k HXS.out
 have sl:=jl HXS.out
 obtain⟨b0,b1,b2,b3,b4⟩:=cells5a HXI.out
 have bl:=jl HXI.out
 go_enter Tryz.func15,Tryz.ntmps15
 go_wp2_with fail
 clear a0 a1 a2 a3 a4 a5 a6 al s0 s1 sp0 sp1 sl b0 b1 b2 b3 b4 bl
 generalize ((((w.alloc (oE V E)).alloc (oS P n c Q m d)).alloc (oI 65 A B K (.slice PL nL cL))).alloc (.cells #[.slice none 0 0,.slice none 0 0] 30))=u0 at *
 obtain⟨y,hy⟩:∃y,w.heap.size=y:=⟨_,rfl⟩
 have HBY:=jq hy
 rw[hy] at HXE HXS HXI HXR
 simp only[hy]
 clear hy
 refine(Stk.rsane_any HST.out).mono ?_
 rintro e w1 ⟨rfl,hb⟩
 rw[HSS.out]
 have HB1:=jq (HBX.out.trans (hb.mono HBX.out.size))
 have HXE:=jq (blk HXE.out hb)
 have HXS:=jq (blk HXS.out hb)
 have HXI:=jq (blk HXI.out hb)
 have HXR:=jq (blk HXR.out hb)
 have HE:=jq (HE.out.keep hb)
 have HST:=jq (HST.out.keep hb)
 have HLB:=jq (HLB.out.keep hb)
 clear hb HBX
 obtain⟨b0,b1,b2,b3,b4⟩:=cells5a HXI.out
 have bl:=jl HXI.out
 go_wp2_with fail
 clear b0 b1 b2 b3 b4 bl
 refine(Ins.rsane_any (x:=⟨65,A,B,K,LL⟩) HLB.out).mono ?_
 rintro e w2 ⟨rfl,hb⟩
 rw[HSI.out]
 have HB1:=jq (HB1.out.trans (hb.mono HB1.out.size))
 have HXE:=jq (blk HXE.out hb)
 have HXS:=jq (blk HXS.out hb)
 have HXI:=jq (blk HXI.out hb)
 have HXR:=jq (blk HXR.out hb)
 have HE:=jq (HE.out.keep hb)
 have HST:=jq (HST.out.keep hb)
 have HLB:=jq (HLB.out.keep hb)
 clear hb
 obtain⟨s0,s1,sp0,sp1⟩:=cells2k HXS.out
 have sl:=jl HXS.out
 obtain⟨b0,b1,b2,b3,b4⟩:=cells5a HXI.out
 have bl:=jl HXI.out
 go_wp2_with fail
 clear s0 s1 sp0 sp1 sl b0 b1 b2 b3 b4 bl
 have HNK:=jq (zaB w2 (.cells #[.slice P n c,.slice Q m d,.int .i64 0] 86))
 have HCK:Hid (Cw (w2.alloc (.cells #[.slice P n c,.slice Q m d,.int .i64 0] 86)) w2.heap.size (.ok s) 290000):=jq ⟨⟨P,n,c,Q,m,d,s,zaC _ _,HST.out.keep HNK.out,HSS.out,HZ.out.1,HZ.out.2,fun t ht=>by injection ht with ht;exact ht.symm⟩,fun e he=>by cases he⟩
 have HEV:Hid (EvAt (w2.alloc (.cells #[.slice P n c,.slice Q m d,.int .i64 0] 86)) w2.heap.size V E):=jq ⟨w2,HE.out,Nat.le_refl _,HNK.out⟩
 have HLA:Hid (LabAt (w2.alloc (.cells #[.slice P n c,.slice Q m d,.int .i64 0] 86)) w2.heap.size (.slice PL nL cL) LL):=jq ⟨w2,HLB.out,Nat.le_refl _,HNK.out⟩
 have HYK:Hid (y+3<w2.heap.size):=jq (jl HXR.out)
 have HXE:=jq (blk HXE.out HNK.out)
 have HXS:=jq (blk HXS.out HNK.out)
 have HST:=jq (HST.out.keep HNK.out)
 have HXI:=jq (blk HXI.out HNK.out)
 have HXR:=jq (blk HXR.out HNK.out)
 have HB2:=jq (HB1.out.trans (HNK.out.mono HB1.out.size))
 have HWK:Hid (w.heap.size<=w2.heap.size):=HB1.out.size
 clear HE HLB HB1 HNK
 generalize w2.alloc (.cells #[.slice P n c,.slice Q m d,.int .i64 0] 86)=u1 at *
 obtain⟨k,hk⟩:∃k,w2.heap.size=k:=⟨_,rfl⟩
 rw[hk] at HCK HEV HLA HYK HWK
 simp only[hk]
 clear hk
 refine((Ints.rshape_is 65) _).mono ?_
 rintro e w3 ⟨PS,nS,TS,rfl,hb⟩
 have HXE:=jq (blk HXE.out hb)
 have HXI:=jq (blk HXI.out hb)
 have HXR:=jq (blk HXR.out hb)
 have HXS:=jq (blk HXS.out hb)
 have HST:=jq (HST.out.keep hb)
 have HCK:=jq (HCK.out.keep hb)
 have HEV:=jq (HEV.out.keep hb)
 have HLA:=jq (HLA.out.keep hb)
 have HB2:=jq (HB2.out.trans (hb.mono HB2.out.size))
 clear hb
 obtain⟨a0,a1,a2,a3,a4,a5,a6⟩:=zaK HXE.out
 have al:=jl HXE.out
 obtain⟨b0,b1,b2,b3,b4⟩:=cells5a HXI.out
 have bl:=jl HXI.out
 go_wp2_with fail
 clear a0 a1 a2 a3 a4 a5 a6 al b0 b1 b2 b3 b4 bl
 refine(i32_wk _).mono ?_
 rintro e w4 ⟨v127,rfl,hr,hb⟩
 have HXR:=jq (blk HXR.out hb)
 have HCK:=jq (HCK.out.keep hb)
 have HB2:=jq (HB2.out.trans (hb.mono HB2.out.size))
 have HROW:=jq hr
 clear hb hr
 go_wp2_with fail
 refine(push_wk (y:=1) HCK.out (by omega) HROW.out (by simp) (by omega)).mono ?_
 rintro e w5 ⟨rfl,hc,hbt⟩
 clear HROW
 rw[HXX.out] at hc
 have HXR:=jq ((hbt.block (y+3) (jl HXR.out) (by have:=HYK.out;omega)).trans HXR.out)
 have HB:=jq (HB2.out.trans (hbt.below HWK.out HCK.out.lt))
 clear hbt HB2 HEV HLA HCK HXE HXI HXS HST
 obtain⟨⟨P5,n5,c5,Q5,m5,d5,s5,h1,h2,h3,h4,h5,h6⟩,hne⟩:=hc
 obtain⟨c0,c1,c2,p0,p1,p2⟩:=cells3 h1
 have kl:=jl h1
 obtain⟨r0,r1,rp0,rp1⟩:=cells2k HXR.out
 have rl:=jl HXR.out
 have HS5:=jq h2
 have hrk:y+3≠k:=by have:=HYK.out;omega
 have hkr:k≠y+3:=by omega
 cases X with
 | er ee=>
  have HNE:=jq (hne ee rfl)
  have t1:(ee == 0)=false:=by simpa using HNE.out
  have t2:(ee != 0)=true:=by simpa using HNE.out
  simp only[Rs.code] at c2
  clear h1 h2 h3 h4 h5 h6 hne
  go_wp2_with fail
  go_region
  all_goals (
   go_wp2_with fail
   have hy:=HBY.out
   have hx:(((w5.setCell ⟨y+3,0,none⟩ (.slice none 0 0)).setCell ⟨y+3,1,none⟩ (.slice none 0 0)).drew).heap[y+3]? = some (.cells #[.slice none 0 0,.slice none 0 0] 30 (0,0)):=zaE (zaE HXR.out (i:=0) (.slice none 0 0)) (i:=1) (.slice none 0 0)
   obtain⟨q0,q1⟩:_/\_:=⟨(zaA hx 0).1,(zaA hx 1).1⟩
   exact jr (v:=.tuple #[.agg #[.slice none 0 0,.slice none 0 0],.int .i64 ee]) (by simp[results,Tryz.results15,go_sem,q0,q1]) rfl ⟨⟨HNE.out,rfl⟩,below_drw ((HB.out.setCell (p:=⟨y+3,0,none⟩) (by show w.heap.size<=y+3;omega) _).setCell (p:=⟨y+3,1,none⟩) (by show w.heap.size<=y+3;omega) _)⟩)
 | ok s6=>
  obtain rfl:=h6 s6 rfl
  simp only[Rs.code] at c2
  clear h1 h2 h3 h4 h5 h6 hne
  go_wp2_with fail
  have hy:=HBY.out
  have hbz:But (y+3) w5 ((w5.setCell ⟨y+3,0,none⟩ (.slice P5 n5 c5)).setCell ⟨y+3,1,none⟩ (.slice Q5 m5 d5)):=((But.refl _ w5).setCell 0 _).setCell 1 _
  have hx:=zaE (zaE HXR.out (i:=0) (.slice P5 n5 c5)) (i:=1) (.slice Q5 m5 d5)
  obtain⟨q0,q1⟩:_/\_:=⟨(zaA hx 0).1,(zaA hx 1).1⟩
  exact jr (v:=.tuple #[.agg #[.slice P5 n5 c5,.slice Q5 m5 d5],.int .i64 0]) (by simp[results,Tryz.results15,go_sem,q0,q1]) rfl ⟨⟨_,rfl,StIs.apart (e:=76) (hi:=infoD) HS5.out (nobb_st HXR.out) hbz⟩,(HB.out.setCell (p:=⟨y+3,0,none⟩) (by show w.heap.size<=y+3;omega) _).setCell (p:=⟨y+3,1,none⟩) (by show w.heap.size<=y+3;omega) _⟩
theorem rstep_66 {w:World}{V:EV}{E:EnvP}{A B K:Int}{PL:Option Addr}{nL cL:Nat}{LL:List Int}{P Q:Option Addr}{n c m d:Nat}{s:Stk}(hE:EnvOk elGD w V E)(hS:StIs elD w (.agg #[.slice P n c,.slice Q m d]) s)(hz:s.vals.length<=290000/\s.cs.length<=290000)(hF:FnBd E)(hL:Ins.SlI w (.slice PL nL cL) LL)(hs:sane s=true)(hi:Ins.saneI ⟨66,A,B,K,LL⟩=true):Calls Tryz.prog 15 #[(.agg #[.slice V.Pt V.nt V.ct,.slice V.Pf V.nf V.cf,.int .i64 E.tables,.int .i64 E.mems,.slice V.Pg V.ng V.cg,.slice V.Pl V.nl V.cl,.slice V.Pr V.nr V.cr]),.agg #[.slice P n c,.slice Q m d],(.agg #[.int .i64 66,.int .i64 A,.int .i64 B,.int .u64 K,.slice PL nL cL])] w (RStepEnds w (pushR [126] (.ok s))):=by
 obtain⟨X,hX⟩:∃X,(pushR [126] (.ok s))=X:=⟨_,rfl⟩
 rw[hX]
 have HXX:=jq hX
 clear hX
 obtain⟨HBX,HXE,HXS,HXI,HXR⟩:=four (w:=w) (oE V E) (oS P n c Q m d) (oI 66 A B K (.slice PL nL cL)) (.cells #[.slice none 0 0,.slice none 0 0] 30)
 have HBX:=jq HBX
 have HXE:=jq HXE
 have HXS:=jq HXS
 have HXI:=jq HXI
 have HXR:=jq HXR
 have HE:=jq (hE.keep HBX.out)
 have HST:=jq (hS.keep HBX.out)
 have HLB:=jq (hL.keep HBX.out)
 have HNL:Hid (LL.length=nL):=jq (by obtain ⟨A0,c0,e,_⟩:=hL;injection e with _ e;exact e.symm)
 have HZ:=jq hz
 have HFB:=jq hF
 have HSS:=jq hs
 have HSI:=jq hi
 clear hE hS hz hF hL hs hi
 obtain⟨a0,a1,a2,a3,a4,a5,a6⟩:=zaK HXE.out
 have al:=jl HXE.out
 obtain⟨s0,s1,sp0,sp1⟩:=cells2k HXS.out
 have sl:=jl HXS.out
 obtain⟨b0,b1,b2,b3,b4⟩:=cells5a HXI.out
 have bl:=jl HXI.out
 go_enter Tryz.func15,Tryz.ntmps15
 go_wp2_with fail
 clear a0 a1 a2 a3 a4 a5 a6 al s0 s1 sp0 sp1 sl b0 b1 b2 b3 b4 bl
 generalize ((((w.alloc (oE V E)).alloc (oS P n c Q m d)).alloc (oI 66 A B K (.slice PL nL cL))).alloc (.cells #[.slice none 0 0,.slice none 0 0] 30))=u0 at *
 obtain⟨y,hy⟩:∃y,w.heap.size=y:=⟨_,rfl⟩
 have HBY:=jq hy
 rw[hy] at HXE HXS HXI HXR
 simp only[hy]
 clear hy
 refine(Stk.rsane_any HST.out).mono ?_
 rintro e w1 ⟨rfl,hb⟩
 rw[HSS.out]
 have HB1:=jq (HBX.out.trans (hb.mono HBX.out.size))
 have HXE:=jq (blk HXE.out hb)
 have HXS:=jq (blk HXS.out hb)
 have HXI:=jq (blk HXI.out hb)
 have HXR:=jq (blk HXR.out hb)
 have HE:=jq (HE.out.keep hb)
 have HST:=jq (HST.out.keep hb)
 have HLB:=jq (HLB.out.keep hb)
 clear hb HBX
 obtain⟨b0,b1,b2,b3,b4⟩:=cells5a HXI.out
 have bl:=jl HXI.out
 go_wp2_with fail
 clear b0 b1 b2 b3 b4 bl
 refine(Ins.rsane_any (x:=⟨66,A,B,K,LL⟩) HLB.out).mono ?_
 rintro e w2 ⟨rfl,hb⟩
 rw[HSI.out]
 have HB1:=jq (HB1.out.trans (hb.mono HB1.out.size))
 have HXE:=jq (blk HXE.out hb)
 have HXS:=jq (blk HXS.out hb)
 have HXI:=jq (blk HXI.out hb)
 have HXR:=jq (blk HXR.out hb)
 have HE:=jq (HE.out.keep hb)
 have HST:=jq (HST.out.keep hb)
 have HLB:=jq (HLB.out.keep hb)
 clear hb
 obtain⟨s0,s1,sp0,sp1⟩:=cells2k HXS.out
 have sl:=jl HXS.out
 obtain⟨b0,b1,b2,b3,b4⟩:=cells5a HXI.out
 have bl:=jl HXI.out
 go_wp2_with fail
 clear s0 s1 sp0 sp1 sl b0 b1 b2 b3 b4 bl
 have HNK:=jq (zaB w2 (.cells #[.slice P n c,.slice Q m d,.int .i64 0] 86))
 have HCK:Hid (Cw (w2.alloc (.cells #[.slice P n c,.slice Q m d,.int .i64 0] 86)) w2.heap.size (.ok s) 290000):=jq ⟨⟨P,n,c,Q,m,d,s,zaC _ _,HST.out.keep HNK.out,HSS.out,HZ.out.1,HZ.out.2,fun t ht=>by injection ht with ht;exact ht.symm⟩,fun e he=>by cases he⟩
 have HEV:Hid (EvAt (w2.alloc (.cells #[.slice P n c,.slice Q m d,.int .i64 0] 86)) w2.heap.size V E):=jq ⟨w2,HE.out,Nat.le_refl _,HNK.out⟩
 have HLA:Hid (LabAt (w2.alloc (.cells #[.slice P n c,.slice Q m d,.int .i64 0] 86)) w2.heap.size (.slice PL nL cL) LL):=jq ⟨w2,HLB.out,Nat.le_refl _,HNK.out⟩
 have HYK:Hid (y+3<w2.heap.size):=jq (jl HXR.out)
 have HXE:=jq (blk HXE.out HNK.out)
 have HXS:=jq (blk HXS.out HNK.out)
 have HST:=jq (HST.out.keep HNK.out)
 have HXI:=jq (blk HXI.out HNK.out)
 have HXR:=jq (blk HXR.out HNK.out)
 have HB2:=jq (HB1.out.trans (HNK.out.mono HB1.out.size))
 have HWK:Hid (w.heap.size<=w2.heap.size):=HB1.out.size
 clear HE HLB HB1 HNK
 generalize w2.alloc (.cells #[.slice P n c,.slice Q m d,.int .i64 0] 86)=u1 at *
 obtain⟨k,hk⟩:∃k,w2.heap.size=k:=⟨_,rfl⟩
 rw[hk] at HCK HEV HLA HYK HWK
 simp only[hk]
 clear hk
 refine((Ints.rshape_is 66) _).mono ?_
 rintro e w3 ⟨PS,nS,TS,rfl,hb⟩
 have HXE:=jq (blk HXE.out hb)
 have HXI:=jq (blk HXI.out hb)
 have HXR:=jq (blk HXR.out hb)
 have HXS:=jq (blk HXS.out hb)
 have HST:=jq (HST.out.keep hb)
 have HCK:=jq (HCK.out.keep hb)
 have HEV:=jq (HEV.out.keep hb)
 have HLA:=jq (HLA.out.keep hb)
 have HB2:=jq (HB2.out.trans (hb.mono HB2.out.size))
 clear hb
 obtain⟨a0,a1,a2,a3,a4,a5,a6⟩:=zaK HXE.out
 have al:=jl HXE.out
 obtain⟨b0,b1,b2,b3,b4⟩:=cells5a HXI.out
 have bl:=jl HXI.out
 go_wp2_with fail
 clear a0 a1 a2 a3 a4 a5 a6 al b0 b1 b2 b3 b4 bl
 have HNW:=jq (zaB w3 (.cells #[.int .u8 126] 5))
 have HROW:=jq (zaL w3 126 ⟨by omega,by omega⟩)
 have HXR:=jq (blk HXR.out HNW.out)
 have HCK:=jq (HCK.out.keep HNW.out)
 have HB2:=jq (HB2.out.trans (HNW.out.mono HB2.out.size))
 clear HNW
 refine(push_wk (y:=1) HCK.out (by omega) HROW.out (by simp) (by omega)).mono ?_
 rintro e w5 ⟨rfl,hc,hbt⟩
 clear HROW
 rw[HXX.out] at hc
 have HXR:=jq ((hbt.block (y+3) (jl HXR.out) (by have:=HYK.out;omega)).trans HXR.out)
 have HB:=jq (HB2.out.trans (hbt.below HWK.out HCK.out.lt))
 clear hbt HB2 HEV HLA HCK HXE HXI HXS HST
 obtain⟨⟨P5,n5,c5,Q5,m5,d5,s5,h1,h2,h3,h4,h5,h6⟩,hne⟩:=hc
 obtain⟨c0,c1,c2,p0,p1,p2⟩:=cells3 h1
 have kl:=jl h1
 obtain⟨r0,r1,rp0,rp1⟩:=cells2k HXR.out
 have rl:=jl HXR.out
 have HS5:=jq h2
 have hrk:y+3≠k:=by have:=HYK.out;omega
 have hkr:k≠y+3:=by omega
 cases X with
 | er ee=>
  have HNE:=jq (hne ee rfl)
  have t1:(ee == 0)=false:=by simpa using HNE.out
  have t2:(ee != 0)=true:=by simpa using HNE.out
  simp only[Rs.code] at c2
  clear h1 h2 h3 h4 h5 h6 hne
  go_wp2_with fail
  go_region
  all_goals (
   go_wp2_with fail
   have hy:=HBY.out
   have hx:(((w5.setCell ⟨y+3,0,none⟩ (.slice none 0 0)).setCell ⟨y+3,1,none⟩ (.slice none 0 0)).drew).heap[y+3]? = some (.cells #[.slice none 0 0,.slice none 0 0] 30 (0,0)):=zaE (zaE HXR.out (i:=0) (.slice none 0 0)) (i:=1) (.slice none 0 0)
   obtain⟨q0,q1⟩:_/\_:=⟨(zaA hx 0).1,(zaA hx 1).1⟩
   exact jr (v:=.tuple #[.agg #[.slice none 0 0,.slice none 0 0],.int .i64 ee]) (by simp[results,Tryz.results15,go_sem,q0,q1]) rfl ⟨⟨HNE.out,rfl⟩,below_drw ((HB.out.setCell (p:=⟨y+3,0,none⟩) (by show w.heap.size<=y+3;omega) _).setCell (p:=⟨y+3,1,none⟩) (by show w.heap.size<=y+3;omega) _)⟩)
 | ok s6=>
  obtain rfl:=h6 s6 rfl
  simp only[Rs.code] at c2
  clear h1 h2 h3 h4 h5 h6 hne
  go_wp2_with fail
  have hy:=HBY.out
  have hbz:But (y+3) w5 ((w5.setCell ⟨y+3,0,none⟩ (.slice P5 n5 c5)).setCell ⟨y+3,1,none⟩ (.slice Q5 m5 d5)):=((But.refl _ w5).setCell 0 _).setCell 1 _
  have hx:=zaE (zaE HXR.out (i:=0) (.slice P5 n5 c5)) (i:=1) (.slice Q5 m5 d5)
  obtain⟨q0,q1⟩:_/\_:=⟨(zaA hx 0).1,(zaA hx 1).1⟩
  exact jr (v:=.tuple #[.agg #[.slice P5 n5 c5,.slice Q5 m5 d5],.int .i64 0]) (by simp[results,Tryz.results15,go_sem,q0,q1]) rfl ⟨⟨_,rfl,StIs.apart (e:=76) (hi:=infoD) HS5.out (nobb_st HXR.out) hbz⟩,(HB.out.setCell (p:=⟨y+3,0,none⟩) (by show w.heap.size<=y+3;omega) _).setCell (p:=⟨y+3,1,none⟩) (by show w.heap.size<=y+3;omega) _⟩
theorem rstep_op {w:World}{V:EV}{E:EnvP}{op A B K:Int}{PL:Option Addr}{nL cL:Nat}{LL:List Int}{P Q:Option Addr}{n c m d:Nat}{s:Stk}(hE:EnvOk elGD w V E)(hS:StIs elD w (.agg #[.slice P n c,.slice Q m d]) s)(hz:s.vals.length<=290000/\s.cs.length<=290000)(hF:FnBd E)(hL:Ins.SlI w (.slice PL nL cL) LL)(hs:sane s=true)(hi:Ins.saneI ⟨op,A,B,K,LL⟩=true)(ho:(69<=op/\op<=90)\/(103<=op/\op<=138)\/op=167\/op=172\/op=173):Calls Tryz.prog 15 #[(.agg #[.slice V.Pt V.nt V.ct,.slice V.Pf V.nf V.cf,.int .i64 E.tables,.int .i64 E.mems,.slice V.Pg V.ng V.cg,.slice V.Pl V.nl V.cl,.slice V.Pr V.nr V.cr]),.agg #[.slice P n c,.slice Q m d],(.agg #[.int .i64 op,.int .i64 A,.int .i64 B,.int .u64 K,.slice PL nL cL])] w (RStepEnds w (pushR [(shT op).2] (wantR (shT op).1 (.ok s)))):=by
 obtain⟨X,hX⟩:∃X,(pushR [(shT op).2] (wantR (shT op).1 (.ok s)))=X:=⟨_,rfl⟩
 rw[hX]
 have HXX:=jq hX
 clear hX
 have HSH:=jq (shape_both op ho).2
 have HLT:=jq (sh_len op)
 have HRG:=jq (sh_rng op)
 have HO:Hid (69<=op):=jq (by omega)
 clear ho
 obtain⟨HBX,HXE,HXS,HXI,HXR⟩:=four (w:=w) (oE V E) (oS P n c Q m d) (oI op A B K (.slice PL nL cL)) (.cells #[.slice none 0 0,.slice none 0 0] 30)
 have HBX:=jq HBX
 have HXE:=jq HXE
 have HXS:=jq HXS
 have HXI:=jq HXI
 have HXR:=jq HXR
 have HE:=jq (hE.keep HBX.out)
 have HST:=jq (hS.keep HBX.out)
 have HLB:=jq (hL.keep HBX.out)
 have HNL:Hid (LL.length=nL):=jq (by obtain ⟨A0,c0,e,_⟩:=hL;injection e with _ e;exact e.symm)
 have HZ:=jq hz
 have HFB:=jq hF
 have HSS:=jq hs
 have HSI:=jq hi
 clear hE hS hz hF hL hs hi
 obtain⟨a0,a1,a2,a3,a4,a5,a6⟩:=zaK HXE.out
 have al:=jl HXE.out
 obtain⟨s0,s1,sp0,sp1⟩:=cells2k HXS.out
 have sl:=jl HXS.out
 obtain⟨b0,b1,b2,b3,b4⟩:=cells5a HXI.out
 have bl:=jl HXI.out
 have n0:(op == 0)=false:=by simpa using (show op≠0 by have:=HO.out;omega)
 have n1:(op == 1)=false:=by simpa using (show op≠1 by have:=HO.out;omega)
 have n2:(op == 11)=false:=by simpa using (show op≠11 by have:=HO.out;omega)
 have n3:(op == 65)=false:=by simpa using (show op≠65 by have:=HO.out;omega)
 have n4:(op == 66)=false:=by simpa using (show op≠66 by have:=HO.out;omega)
 have n5:decide (op<=5)=false:=decide_eq_false (by have:=HO.out;omega)
 have n6:decide (op<=15)=false:=decide_eq_false (by have:=HO.out;omega)
 have n7:decide (op<=17)=false:=decide_eq_false (by have:=HO.out;omega)
 have n8:decide (op<=27)=false:=decide_eq_false (by have:=HO.out;omega)
 have n9:decide (op<=36)=false:=decide_eq_false (by have:=HO.out;omega)
 have n10:decide (op<=64)=false:=decide_eq_false (by have:=HO.out;omega)
 go_enter Tryz.func15,Tryz.ntmps15
 go_wp2_with fail
 clear a0 a1 a2 a3 a4 a5 a6 al s0 s1 sp0 sp1 sl b0 b1 b2 b3 b4 bl
 generalize ((((w.alloc (oE V E)).alloc (oS P n c Q m d)).alloc (oI op A B K (.slice PL nL cL))).alloc (.cells #[.slice none 0 0,.slice none 0 0] 30))=u0 at *
 obtain⟨y,hy⟩:∃y,w.heap.size=y:=⟨_,rfl⟩
 have HBY:=jq hy
 rw[hy] at HXE HXS HXI HXR
 simp only[hy]
 clear hy
 refine(Stk.rsane_any HST.out).mono ?_
 rintro e w1 ⟨rfl,hb⟩
 rw[HSS.out]
 have HB1:=jq (HBX.out.trans (hb.mono HBX.out.size))
 have HXE:=jq (blk HXE.out hb)
 have HXS:=jq (blk HXS.out hb)
 have HXI:=jq (blk HXI.out hb)
 have HXR:=jq (blk HXR.out hb)
 have HE:=jq (HE.out.keep hb)
 have HST:=jq (HST.out.keep hb)
 have HLB:=jq (HLB.out.keep hb)
 clear hb HBX
 obtain⟨b0,b1,b2,b3,b4⟩:=cells5a HXI.out
 have bl:=jl HXI.out
 go_wp2_with fail
 clear b0 b1 b2 b3 b4 bl
 refine(Ins.rsane_any (x:=⟨op,A,B,K,LL⟩) HLB.out).mono ?_
 rintro e w2 ⟨rfl,hb⟩
 rw[HSI.out]
 have HB1:=jq (HB1.out.trans (hb.mono HB1.out.size))
 have HXE:=jq (blk HXE.out hb)
 have HXS:=jq (blk HXS.out hb)
 have HXI:=jq (blk HXI.out hb)
 have HXR:=jq (blk HXR.out hb)
 have HE:=jq (HE.out.keep hb)
 have HST:=jq (HST.out.keep hb)
 have HLB:=jq (HLB.out.keep hb)
 clear hb
 obtain⟨s0,s1,sp0,sp1⟩:=cells2k HXS.out
 have sl:=jl HXS.out
 obtain⟨b0,b1,b2,b3,b4⟩:=cells5a HXI.out
 have bl:=jl HXI.out
 go_wp2_with fail
 clear s0 s1 sp0 sp1 sl b0 b1 b2 b3 b4 bl
 have HNK:=jq (zaB w2 (.cells #[.slice P n c,.slice Q m d,.int .i64 0] 86))
 have HCK:Hid (Cw (w2.alloc (.cells #[.slice P n c,.slice Q m d,.int .i64 0] 86)) w2.heap.size (.ok s) 290000):=jq ⟨⟨P,n,c,Q,m,d,s,zaC _ _,HST.out.keep HNK.out,HSS.out,HZ.out.1,HZ.out.2,fun t ht=>by injection ht with ht;exact ht.symm⟩,fun e he=>by cases he⟩
 have HEV:Hid (EvAt (w2.alloc (.cells #[.slice P n c,.slice Q m d,.int .i64 0] 86)) w2.heap.size V E):=jq ⟨w2,HE.out,Nat.le_refl _,HNK.out⟩
 have HLA:Hid (LabAt (w2.alloc (.cells #[.slice P n c,.slice Q m d,.int .i64 0] 86)) w2.heap.size (.slice PL nL cL) LL):=jq ⟨w2,HLB.out,Nat.le_refl _,HNK.out⟩
 have HYK:Hid (y+3<w2.heap.size):=jq (jl HXR.out)
 have HXE:=jq (blk HXE.out HNK.out)
 have HXS:=jq (blk HXS.out HNK.out)
 have HST:=jq (HST.out.keep HNK.out)
 have HXI:=jq (blk HXI.out HNK.out)
 have HXR:=jq (blk HXR.out HNK.out)
 have HB2:=jq (HB1.out.trans (HNK.out.mono HB1.out.size))
 have HWK:Hid (w.heap.size<=w2.heap.size):=HB1.out.size
 clear HE HLB HB1 HNK
 generalize w2.alloc (.cells #[.slice P n c,.slice Q m d,.int .i64 0] 86)=u1 at *
 obtain⟨k,hk⟩:∃k,w2.heap.size=k:=⟨_,rfl⟩
 rw[hk] at HCK HEV HLA HYK HWK
 simp only[hk]
 clear hk
 refine(HSH.out _).mono ?_
 rintro e w3 ⟨⟨PS,nS,cS,rfl,hrs⟩,hb⟩
 have HRS:=jq hrs
 clear hrs
 have HXE:=jq (blk HXE.out hb)
 have HXI:=jq (blk HXI.out hb)
 have HXR:=jq (blk HXR.out hb)
 have HXS:=jq (blk HXS.out hb)
 have HST:=jq (HST.out.keep hb)
 have HCK:=jq (HCK.out.keep hb)
 have HEV:=jq (HEV.out.keep hb)
 have HLA:=jq (HLA.out.keep hb)
 have HB2:=jq (HB2.out.trans (hb.mono HB2.out.size))
 clear hb
 obtain⟨a0,a1,a2,a3,a4,a5,a6⟩:=zaK HXE.out
 have al:=jl HXE.out
 obtain⟨b0,b1,b2,b3,b4⟩:=cells5a HXI.out
 have bl:=jl HXI.out
 go_wp2_with fail
 clear a0 a1 a2 a3 a4 a5 a6 al b0 b1 b2 b3 b4 bl
 refine(want_wk HCK.out (by omega) HRS.out HLT.out).mono ?_
 rintro e w4 ⟨rfl,hc,hbt⟩
 have HXR:=jq ((hbt.block (y+3) (jl HXR.out) (by have:=HYK.out;omega)).trans HXR.out)
 have HB2:=jq (HB2.out.trans (hbt.below HWK.out HCK.out.lt))
 have HCK:=jq hc
 clear hc hbt
 go_wp2_with fail
 have HNW:=jq (zaB w4 (.cells #[.int .u8 (shT op).2] 5))
 have HROW:=jq (zaL w4 (shT op).2 HRG.out)
 have HXR:=jq (blk HXR.out HNW.out)
 have HCK:=jq (HCK.out.keep HNW.out)
 have HB2:=jq (HB2.out.trans (HNW.out.mono HB2.out.size))
 clear HNW
 refine(push_wk (y:=1) HCK.out (by omega) HROW.out (by simp) (by omega)).mono ?_
 rintro e w5 ⟨rfl,hc,hbt⟩
 clear HROW HRS
 rw[HXX.out] at hc
 have HXR:=jq ((hbt.block (y+3) (jl HXR.out) (by have:=HYK.out;omega)).trans HXR.out)
 have HB:=jq (HB2.out.trans (hbt.below HWK.out HCK.out.lt))
 clear hbt HB2 HEV HLA HCK HXE HXI HXS HST
 obtain⟨⟨P5,n5,c5,Q5,m5,d5,s5,h1,h2,h3,h4,h5,h6⟩,hne⟩:=hc
 obtain⟨c0,c1,c2,p0,p1,p2⟩:=cells3 h1
 have kl:=jl h1
 obtain⟨r0,r1,rp0,rp1⟩:=cells2k HXR.out
 have rl:=jl HXR.out
 have HS5:=jq h2
 have hrk:y+3≠k:=by have:=HYK.out;omega
 have hkr:k≠y+3:=by omega
 cases X with
 | er ee=>
  have HNE:=jq (hne ee rfl)
  have t1:(ee == 0)=false:=by simpa using HNE.out
  have t2:(ee != 0)=true:=by simpa using HNE.out
  simp only[Rs.code] at c2
  clear h1 h2 h3 h4 h5 h6 hne
  go_wp2_with fail
  go_region
  all_goals (
   go_wp2_with fail
   have hy:=HBY.out
   have hx:(((w5.setCell ⟨y+3,0,none⟩ (.slice none 0 0)).setCell ⟨y+3,1,none⟩ (.slice none 0 0)).drew).heap[y+3]? = some (.cells #[.slice none 0 0,.slice none 0 0] 30 (0,0)):=zaE (zaE HXR.out (i:=0) (.slice none 0 0)) (i:=1) (.slice none 0 0)
   obtain⟨q0,q1⟩:_/\_:=⟨(zaA hx 0).1,(zaA hx 1).1⟩
   exact jr (v:=.tuple #[.agg #[.slice none 0 0,.slice none 0 0],.int .i64 ee]) (by simp[results,Tryz.results15,go_sem,q0,q1]) rfl ⟨⟨HNE.out,rfl⟩,below_drw ((HB.out.setCell (p:=⟨y+3,0,none⟩) (by show w.heap.size<=y+3;omega) _).setCell (p:=⟨y+3,1,none⟩) (by show w.heap.size<=y+3;omega) _)⟩)
 | ok s6=>
  obtain rfl:=h6 s6 rfl
  simp only[Rs.code] at c2
  clear h1 h2 h3 h4 h5 h6 hne
  go_wp2_with fail
  have hy:=HBY.out
  have hbz:But (y+3) w5 ((w5.setCell ⟨y+3,0,none⟩ (.slice P5 n5 c5)).setCell ⟨y+3,1,none⟩ (.slice Q5 m5 d5)):=((But.refl _ w5).setCell 0 _).setCell 1 _
  have hx:=zaE (zaE HXR.out (i:=0) (.slice P5 n5 c5)) (i:=1) (.slice Q5 m5 d5)
  obtain⟨q0,q1⟩:_/\_:=⟨(zaA hx 0).1,(zaA hx 1).1⟩
  exact jr (v:=.tuple #[.agg #[.slice P5 n5 c5,.slice Q5 m5 d5],.int .i64 0]) (by simp[results,Tryz.results15,go_sem,q0,q1]) rfl ⟨⟨_,rfl,StIs.apart (e:=76) (hi:=infoD) HS5.out (nobb_st HXR.out) hbz⟩,(HB.out.setCell (p:=⟨y+3,0,none⟩) (by show w.heap.size<=y+3;omega) _).setCell (p:=⟨y+3,1,none⟩) (by show w.heap.size<=y+3;omega) _⟩
theorem rstep_1 {w:World}{V:EV}{E:EnvP}{A B K:Int}{PL:Option Addr}{nL cL:Nat}{LL:List Int}{P Q:Option Addr}{n c m d:Nat}{s:Stk}(hE:EnvOk elGD w V E)(hS:StIs elD w (.agg #[.slice P n c,.slice Q m d]) s)(hz:s.vals.length<=290000/\s.cs.length<=290000)(hF:FnBd E)(hL:Ins.SlI w (.slice PL nL cL) LL)(hs:sane s=true)(hi:Ins.saneI ⟨1,A,B,K,LL⟩=true):Calls Tryz.prog 15 #[(.agg #[.slice V.Pt V.nt V.ct,.slice V.Pf V.nf V.cf,.int .i64 E.tables,.int .i64 E.mems,.slice V.Pg V.ng V.cg,.slice V.Pl V.nl V.cl,.slice V.Pr V.nr V.cr]),.agg #[.slice P n c,.slice Q m d],(.agg #[.int .i64 1,.int .i64 A,.int .i64 B,.int .u64 K,.slice PL nL cL])] w (RStepEnds w (Rs.ok s)):=by
 obtain⟨X,hX⟩:∃X,(Rs.ok s)=X:=⟨_,rfl⟩
 rw[hX]
 have HXX:=jq hX
 clear hX
 obtain⟨HBX,HXE,HXS,HXI,HXR⟩:=four (w:=w) (oE V E) (oS P n c Q m d) (oI 1 A B K (.slice PL nL cL)) (.cells #[.slice none 0 0,.slice none 0 0] 30)
 have HBX:=jq HBX
 have HXE:=jq HXE
 have HXS:=jq HXS
 have HXI:=jq HXI
 have HXR:=jq HXR
 have HE:=jq (hE.keep HBX.out)
 have HST:=jq (hS.keep HBX.out)
 have HLB:=jq (hL.keep HBX.out)
 have HNL:Hid (LL.length=nL):=jq (by obtain ⟨A0,c0,e,_⟩:=hL;injection e with _ e;exact e.symm)
 have HZ:=jq hz
 have HFB:=jq hF
 have HSS:=jq hs
 have HSI:=jq hi
 clear hE hS hz hF hL hs hi
 obtain⟨a0,a1,a2,a3,a4,a5,a6⟩:=zaK HXE.out
 have al:=jl HXE.out
 obtain⟨s0,s1,sp0,sp1⟩:=cells2k HXS.out
 have sl:=jl HXS.out
 obtain⟨b0,b1,b2,b3,b4⟩:=cells5a HXI.out
 have bl:=jl HXI.out
 go_enter Tryz.func15,Tryz.ntmps15
 go_wp2_with fail
 clear a0 a1 a2 a3 a4 a5 a6 al s0 s1 sp0 sp1 sl b0 b1 b2 b3 b4 bl
 generalize ((((w.alloc (oE V E)).alloc (oS P n c Q m d)).alloc (oI 1 A B K (.slice PL nL cL))).alloc (.cells #[.slice none 0 0,.slice none 0 0] 30))=u0 at *
 obtain⟨y,hy⟩:∃y,w.heap.size=y:=⟨_,rfl⟩
 have HBY:=jq hy
 rw[hy] at HXE HXS HXI HXR
 simp only[hy]
 clear hy
 refine(Stk.rsane_any HST.out).mono ?_
 rintro e w1 ⟨rfl,hb⟩
 rw[HSS.out]
 have HB1:=jq (HBX.out.trans (hb.mono HBX.out.size))
 have HXE:=jq (blk HXE.out hb)
 have HXS:=jq (blk HXS.out hb)
 have HXI:=jq (blk HXI.out hb)
 have HXR:=jq (blk HXR.out hb)
 have HE:=jq (HE.out.keep hb)
 have HST:=jq (HST.out.keep hb)
 have HLB:=jq (HLB.out.keep hb)
 clear hb HBX
 obtain⟨b0,b1,b2,b3,b4⟩:=cells5a HXI.out
 have bl:=jl HXI.out
 go_wp2_with fail
 clear b0 b1 b2 b3 b4 bl
 refine(Ins.rsane_any (x:=⟨1,A,B,K,LL⟩) HLB.out).mono ?_
 rintro e w2 ⟨rfl,hb⟩
 rw[HSI.out]
 have HB1:=jq (HB1.out.trans (hb.mono HB1.out.size))
 have HXE:=jq (blk HXE.out hb)
 have HXS:=jq (blk HXS.out hb)
 have HXI:=jq (blk HXI.out hb)
 have HXR:=jq (blk HXR.out hb)
 have HE:=jq (HE.out.keep hb)
 have HST:=jq (HST.out.keep hb)
 have HLB:=jq (HLB.out.keep hb)
 clear hb
 obtain⟨s0,s1,sp0,sp1⟩:=cells2k HXS.out
 have sl:=jl HXS.out
 obtain⟨b0,b1,b2,b3,b4⟩:=cells5a HXI.out
 have bl:=jl HXI.out
 go_wp2_with fail
 clear s0 s1 sp0 sp1 sl b0 b1 b2 b3 b4 bl
 have HNK:=jq (zaB w2 (.cells #[.slice P n c,.slice Q m d,.int .i64 0] 86))
 have HCK:Hid (Cw (w2.alloc (.cells #[.slice P n c,.slice Q m d,.int .i64 0] 86)) w2.heap.size (.ok s) 290000):=jq ⟨⟨P,n,c,Q,m,d,s,zaC _ _,HST.out.keep HNK.out,HSS.out,HZ.out.1,HZ.out.2,fun t ht=>by injection ht with ht;exact ht.symm⟩,fun e he=>by cases he⟩
 have HEV:Hid (EvAt (w2.alloc (.cells #[.slice P n c,.slice Q m d,.int .i64 0] 86)) w2.heap.size V E):=jq ⟨w2,HE.out,Nat.le_refl _,HNK.out⟩
 have HLA:Hid (LabAt (w2.alloc (.cells #[.slice P n c,.slice Q m d,.int .i64 0] 86)) w2.heap.size (.slice PL nL cL) LL):=jq ⟨w2,HLB.out,Nat.le_refl _,HNK.out⟩
 have HYK:Hid (y+3<w2.heap.size):=jq (jl HXR.out)
 have HXE:=jq (blk HXE.out HNK.out)
 have HXS:=jq (blk HXS.out HNK.out)
 have HST:=jq (HST.out.keep HNK.out)
 have HXI:=jq (blk HXI.out HNK.out)
 have HXR:=jq (blk HXR.out HNK.out)
 have HB2:=jq (HB1.out.trans (HNK.out.mono HB1.out.size))
 have HWK:Hid (w.heap.size<=w2.heap.size):=HB1.out.size
 clear HE HLB HB1 HNK
 generalize w2.alloc (.cells #[.slice P n c,.slice Q m d,.int .i64 0] 86)=u1 at *
 obtain⟨k,hk⟩:∃k,w2.heap.size=k:=⟨_,rfl⟩
 rw[hk] at HCK HEV HLA HYK HWK
 simp only[hk]
 clear hk
 refine((Ints.rshape_is 1) _).mono ?_
 rintro e w3 ⟨PS,nS,TS,rfl,hb⟩
 have HXE:=jq (blk HXE.out hb)
 have HXI:=jq (blk HXI.out hb)
 have HXR:=jq (blk HXR.out hb)
 have HXS:=jq (blk HXS.out hb)
 have HST:=jq (HST.out.keep hb)
 have HCK:=jq (HCK.out.keep hb)
 have HEV:=jq (HEV.out.keep hb)
 have HLA:=jq (HLA.out.keep hb)
 have HB2:=jq (HB2.out.trans (hb.mono HB2.out.size))
 clear hb
 obtain⟨a0,a1,a2,a3,a4,a5,a6⟩:=zaK HXE.out
 have al:=jl HXE.out
 obtain⟨b0,b1,b2,b3,b4⟩:=cells5a HXI.out
 have bl:=jl HXI.out
 obtain⟨s0,s1,sp0,sp1⟩:=cells2k HXS.out
 have sl:=jl HXS.out
 go_wp2_with fail
 clear a0 a1 a2 a3 a4 a5 a6 al b0 b1 b2 b3 b4 bl
 clear s0 s1 sp0 sp1 sl
 refine(copied_eo HST.out (by have:=HZ.out;omega) (by have:=HZ.out;omega)).mono ?_
 rintro e w4 ⟨⟨P6,n6,c6,Q6,m6,d6,l6,rfl,he1,he2,hml,hok,hck⟩,hb⟩
 have hk4:=HCK.out.keep hb
 have hnb:=nob8_of hk4.nobb
 have hst:=apt_eo he1 he2 hml hok (fun p hp=>(hck p hp).keep hb) HCK.out.lt HCK.out.lt hnb hnb ((w4.setCell ⟨k,0,none⟩ (.slice P6 n6 c6)).setCell ⟨k,1,none⟩ (.slice Q6 m6 d6)) (((But.refl k w4).setCell 0 _).setCell 1 _).size (fun j hj hy _=>(((But.refl k w4).setCell 0 (.slice P6 n6 c6)).setCell 1 (.slice Q6 m6 d6)).block j hj hy)
 obtain⟨⟨P5,n5,c5,Q5,m5,d5,s5,h1,_⟩,_⟩:=id hk4
 obtain⟨c0,c1,c2,p0,p1,p2⟩:=cells3 h1
 have kl:=jl h1
 have HXR:=jq (blk HXR.out hb)
 have HB:=jq (HB2.out.trans ((hb.mono HB2.out.size).trans ((((But.refl k w4).setCell 0 (.slice P6 n6 c6)).setCell 1 (.slice Q6 m6 d6)).below HWK.out kl)))
 obtain⟨r0,r1,rp0,rp1⟩:=cells2k HXR.out
 have rl:=jl HXR.out
 have HS5:=jq hst
 have hrk:y+3≠k:=by have:=HYK.out;omega
 have hkr:k≠y+3:=by omega
 have hxr:((w4.setCell ⟨k,0,none⟩ (.slice P6 n6 c6)).setCell ⟨k,1,none⟩ (.slice Q6 m6 d6)).heap[y+3]? = some (.cells #[.slice none 0 0,.slice none 0 0] 30 (0,0)):=((((But.refl k w4).setCell 0 (.slice P6 n6 c6)).setCell 1 (.slice Q6 m6 d6)).block (y+3) rl hrk).trans HXR.out
 have HX5:=jq hxr
 simp only[Rs.code] at c2
 clear h1 he1 he2 hml hok hck hb hst hk4 hnb hxr
 go_wp2_with fail
 have hy:=HBY.out
 have hbz:But (y+3) ((w4.setCell ⟨k,0,none⟩ (.slice P6 n6 c6)).setCell ⟨k,1,none⟩ (.slice Q6 m6 d6)) ((((w4.setCell ⟨k,0,none⟩ (.slice P6 n6 c6)).setCell ⟨k,1,none⟩ (.slice Q6 m6 d6)).setCell ⟨y+3,0,none⟩ (.slice P6 n6 c6)).setCell ⟨y+3,1,none⟩ (.slice Q6 m6 d6)):=((But.refl _ ((w4.setCell ⟨k,0,none⟩ (.slice P6 n6 c6)).setCell ⟨k,1,none⟩ (.slice Q6 m6 d6))).setCell 0 _).setCell 1 _
 have hx:=zaE (zaE HX5.out (i:=0) (.slice P6 n6 c6)) (i:=1) (.slice Q6 m6 d6)
 obtain⟨q0,q1⟩:_/\_:=⟨(zaA hx 0).1,(zaA hx 1).1⟩
 rw[<- HXX.out]
 exact jr (v:=.tuple #[.agg #[.slice P6 n6 c6,.slice Q6 m6 d6],.int .i64 0]) (by simp[results,Tryz.results15,go_sem,q0,q1]) rfl ⟨⟨_,rfl,StIs.apart (e:=76) (hi:=infoD) HS5.out (nobb_st HX5.out) hbz⟩,(HB.out.setCell (p:=⟨y+3,0,none⟩) (by show w.heap.size<=y+3;omega) _).setCell (p:=⟨y+3,1,none⟩) (by show w.heap.size<=y+3;omega) _⟩
end Go.Proofs.YtlappkflnlbfcaaGreatDoor.Chk
namespace Go.Proofs.YtlappkflnlbfcaaGreatDoor.Chk
open Go renaming bodyPost_ret → jr
open Lib renaming hid → jq
open Go.ChangeShapes Go.WideShapes Go.ChangeAt Go.RowKit Go.Joins Row9 Stk
set_option maxRecDepth 100000
set_option maxHeartbeats 400000
set_option linter.unusedVariables false
theorem cFn:Tryz.prog.cellsOf 51=2:=by kernel_rfl
theorem cGl:Tryz.prog.cellsOf 81=2:=by kernel_rfl
theorem cEnv:Tryz.prog.cellsOf 27=7:=by kernel_rfl
theorem cFns:Tryz.prog.cellsOf 22=1:=by kernel_rfl
theorem cNums:Tryz.prog.cellsOf 23=1:=by kernel_rfl
theorem cGls:Tryz.prog.cellsOf 24=1:=by kernel_rfl
section
variable {H:Type} {enc:TypeId×Value->H} {w:World} {base:Nat}
theorem int_each {n:Nat}{cs:List Value}{y:DataW H×List MemPlace}(hl:cs.length=1)(h:DataW.trod enc Tryz.prog w base (fun _=>true) true n 3 cs=some y):∃q:Int,elI.ok w q/\elI.enc q=cs:=by
 obtain⟨op,e0,_,w0⟩:=DataW.trod_int Tryz.underlying3 (x:=y) h
 exact⟨op,w64_of w0,e0.symm⟩
theorem nums_of {n:Nat}{v:Value}{y:DataW H×List MemPlace}(h:DataW.trod enc Tryz.prog w base (fun _=>true) true n 23 [v]=some y):∃l,Row elI w v l:=
 row_of elI Tryz.underlying23 Stk.cInt (fun hl hh=>int_each hl hh) h
theorem fn_each {n:Nat}{cs:List Value}{y:DataW H×List MemPlace}(hl:cs.length=2)(h:DataW.trod enc Tryz.prog w base (fun _=>true) true n 51 cs=some y):∃q:FnV,elF.ok w q/\elF.enc q=cs:=by
 match cs,hl with
 | [c0,c1],_=>
  obtain⟨ys,m,_,_,_,hlen,hf⟩:=DataW.trod_struct Tryz.underlying51 h
  have h0:DataW.trod enc Tryz.prog w base (fun _=>true) true m 25 (([c0,c1].drop 0).take (Tryz.prog.cellsOf 25))=ys[0]?:=hf 0 _ rfl
  have h1:DataW.trod enc Tryz.prog w base (fun _=>true) true m 25 (([c0,c1].drop 1).take (Tryz.prog.cellsOf 25))=ys[1]?:=hf 1 _ rfl
  rw[Stk.cSl] at h0 h1
  match ys,hlen with
  | [y0,y1],_=>
   obtain⟨l0,r0⟩:=bytes_of (v:=c0) (y:=y0) (by simpa using h0)
   obtain⟨l1,r1⟩:=bytes_of (v:=c1) (y:=y1) (by simpa using h1)
   exact⟨((l0,l1),(c0,c1)),⟨r0,r1⟩,rfl⟩
theorem fns_of {n:Nat}{v:Value}{y:DataW H×List MemPlace}(h:DataW.trod enc Tryz.prog w base (fun _=>true) true n 22 [v]=some y):∃l,Row elF w v l:=
 row_of elF Tryz.underlying22 cFn (fun hl hh=>fn_each hl hh) h
theorem gl_each {n:Nat}{cs:List Value}{y:DataW H×List MemPlace}(hl:cs.length=2)(h:DataW.trod enc Tryz.prog w base (fun _=>true) true n 81 cs=some y):∃q:Int×Bool,elGD.ok w q/\elGD.enc q=cs:=by
 match cs,hl with
 | [c0,c1],_=>
  obtain⟨ys,m,_,_,_,hlen,hf⟩:=DataW.trod_struct Tryz.underlying81 h
  have h0:DataW.trod enc Tryz.prog w base (fun _=>true) true m 5 (([c0,c1].drop 0).take (Tryz.prog.cellsOf 5))=ys[0]?:=hf 0 _ rfl
  have h1:DataW.trod enc Tryz.prog w base (fun _=>true) true m 4 (([c0,c1].drop 1).take (Tryz.prog.cellsOf 4))=ys[1]?:=hf 1 _ rfl
  rw[cU8] at h0
  rw[Stk.cBool] at h1
  match ys,hlen with
  | [y0,y1],_=>
   obtain⟨a,e0,_,w0⟩:=DataW.trod_int Tryz.underlying5 (x:=y0) (by rw[h0];rfl)
   obtain⟨x,e1,_⟩:=DataW.trod_bool Tryz.underlying4 (x:=y1) (by rw[h1];rfl)
   simp at e0 e1
   subst e0 e1
   have:=bounds_u8 w0
   exact⟨(a,x),⟨by omega,by omega⟩,rfl⟩
theorem gls_of {n:Nat}{v:Value}{y:DataW H×List MemPlace}(h:DataW.trod enc Tryz.prog w base (fun _=>true) true n 24 [v]=some y):∃l,Row elGD w v l:=
 row_of elGD Tryz.underlying24 cGl (fun hl hh=>gl_each hl hh) h
theorem array7 {α:Type}{cs:Array α}(h:cs.size=7):∃c0 c1 c2 c3 c4 c5 c6,cs=#[c0,c1,c2,c3,c4,c5,c6]:=by
 obtain⟨l⟩:=cs
 match l,h with
 | [c0,c1,c2,c3,c4,c5,c6],_=>exact ⟨c0,c1,c2,c3,c4,c5,c6,rfl⟩
theorem env_of {r:Reach}{b0:Nat}{v:Value}{d:DataW H}{p:List MemPlace}(hv:Value.okWide Tryz.prog w r b0 27 v)(h:DataW.Trod enc Tryz.prog w base (fun _=>true) true 27 v d p):∃V E,v=evV V E/\EnvOk elGD w V E:=by
 obtain⟨cs,rfl,hsz⟩:=okWide_struct Tryz.underlying27 hv
 obtain⟨c0,c1,c2,c3,c4,c5,c6,rfl⟩:=array7 (hsz.trans cEnv)
 obtain⟨fuel,hf0⟩:=h
 have hf1:DataW.trod enc Tryz.prog w base (fun _=>true) true fuel 27 [c0,c1,c2,c3,c4,c5,c6]=some (d,p):=by simpa [Value.cells] using hf0
 obtain⟨ys,m,_,_,_,hlen,hf⟩:=DataW.trod_struct Tryz.underlying27 hf1
 have h0:DataW.trod enc Tryz.prog w base (fun _=>true) true m 22 (([c0,c1,c2,c3,c4,c5,c6].drop 0).take (Tryz.prog.cellsOf 22))=ys[0]?:=hf 0 _ rfl
 have h1:DataW.trod enc Tryz.prog w base (fun _=>true) true m 23 (([c0,c1,c2,c3,c4,c5,c6].drop 1).take (Tryz.prog.cellsOf 23))=ys[1]?:=hf 1 _ rfl
 have h2:DataW.trod enc Tryz.prog w base (fun _=>true) true m 3 (([c0,c1,c2,c3,c4,c5,c6].drop 2).take (Tryz.prog.cellsOf 3))=ys[2]?:=hf 2 _ rfl
 have h3:DataW.trod enc Tryz.prog w base (fun _=>true) true m 3 (([c0,c1,c2,c3,c4,c5,c6].drop 3).take (Tryz.prog.cellsOf 3))=ys[3]?:=hf 3 _ rfl
 have h4:DataW.trod enc Tryz.prog w base (fun _=>true) true m 24 (([c0,c1,c2,c3,c4,c5,c6].drop 4).take (Tryz.prog.cellsOf 24))=ys[4]?:=hf 4 _ rfl
 have h5:DataW.trod enc Tryz.prog w base (fun _=>true) true m 25 (([c0,c1,c2,c3,c4,c5,c6].drop 5).take (Tryz.prog.cellsOf 25))=ys[5]?:=hf 5 _ rfl
 have h6:DataW.trod enc Tryz.prog w base (fun _=>true) true m 25 (([c0,c1,c2,c3,c4,c5,c6].drop 6).take (Tryz.prog.cellsOf 25))=ys[6]?:=hf 6 _ rfl
 rw[cFns] at h0
 rw[cNums] at h1
 rw[Stk.cInt] at h2 h3
 rw[cGls] at h4
 rw[Stk.cSl] at h5 h6
 match ys,hlen with
 | [y0,y1,y2,y3,y4,y5,y6],_=>
  obtain⟨l0,r0⟩:=fns_of (v:=c0) (y:=y0) (by simpa using h0)
  obtain⟨l1,r1⟩:=nums_of (v:=c1) (y:=y1) (by simpa using h1)
  obtain⟨a2,e2,_,w2⟩:=DataW.trod_int Tryz.underlying3 (x:=y2) (by rw[h2];rfl)
  obtain⟨a3,e3,_,w3⟩:=DataW.trod_int Tryz.underlying3 (x:=y3) (by rw[h3];rfl)
  obtain⟨l4,r4⟩:=gls_of (v:=c4) (y:=y4) (by simpa using h4)
  obtain⟨l5,r5⟩:=bytes_of (v:=c5) (y:=y5) (by simpa using h5)
  obtain⟨l6,r6⟩:=bytes_of (v:=c6) (y:=y6) (by simpa using h6)
  simp at e2 e3
  subst e2 e3
  obtain⟨P0,k0,rfl,_⟩:=r0.form
  obtain⟨P1,k1,rfl,_⟩:=r1.form
  obtain⟨P4,k4,rfl,_⟩:=r4.form
  obtain⟨P5,k5,rfl,_⟩:=r5.form
  obtain⟨P6,k6,rfl,_⟩:=r6.form
  exact⟨⟨P0,l0.length,k0,P1,l1.length,k1,P4,l4.length,k4,P5,l5.length,k5,P6,l6.length,k6⟩,⟨l0.map (·.1),l1,a2,a3,l4,l5,l6⟩,rfl,⟨l0,r0,rfl⟩,r1,r4,r5,r6,w64_of w2,w64_of w3⟩
end
end Go.Proofs.YtlappkflnlbfcaaGreatDoor.Chk
