import Derived.Test.YtlappkflnlbfcaaGreatDoorPkChkRType
namespace Go.Proofs.YtlappkflnlbfcaaGreatDoor.Chk
open Lib renaming hid → jq
open Go.RowKit Row9 Stk
set_option maxRecDepth 100000
set_option maxHeartbeats 400000
set_option linter.unusedVariables false
theorem call_no1 (f g:List Int×List Int)(b:Bool)(x:Rs):callR f (wantR [127] (needR b 6 (needR false 6 x)))=callR g (wantR [127] (needR false 6 x)):=by cases x <;> rfl
theorem call_no2 (f g:List Int×List Int)(x:Rs):callR f (wantR [127] (needR false 6 x))=callR g (wantR [127] (needR false 6 x)):=by cases x <;> rfl
theorem call_16 {w:World}{k:Nat}{x:Rs}{z:Nat}{V:EV}{E:EnvP}{A B K:Int}{lab:Value}(h:Cw w k x z)(hz:z<=300000)(hE:EvAt w k V E)(hF:FnBd E):Calls Tryz.prog 35 #[.pointer (some ⟨k,0,none⟩),(.agg #[.slice V.Pt V.nt V.ct,.slice V.Pf V.nf V.cf,.int .i64 E.tables,.int .i64 E.mems,.slice V.Pg V.ng V.cg,.slice V.Pl V.nl V.cl,.slice V.Pr V.nr V.cr]),.agg #[.int .i64 16,.int .i64 A,.int .i64 B,.int .u64 K,lab]] w (CwEnds w k (callR ((typeE E A).getD ([],[])) (needR (typeE E A).isSome 6 x)) (z+1000) (.tuple #[])):=by
 obtain⟨Y,hY⟩:∃Y,(callR ((typeE E A).getD ([],[])) (needR (typeE E A).isSome 6 x))=Y:=⟨_,rfl⟩
 rw[hY]
 have HD:=jq hY
 clear hY
 have HFB:=jq (type_bd hF A)
 clear hF
 have HBX:=jq (below2 w (oE V E) (oI 16 A B K lab))
 have HXE:=jq (blk (zaC w (oE V E)) (zaB (w.alloc (oE V E)) (oI 16 A B K lab)))
 have HXI:=jq (zaC (w.alloc (oE V E)) (oI 16 A B K lab))
 rw[zaD] at HXI
 have HE:=jq (hE.keep HBX.out)
 have HYK:Hid (w.heap.size≠k):=jq (by have:=h.lt;omega)
 have HYI:Hid (w.heap.size+1≠k):=jq (by have:=h.lt;omega)
 have HC:=jq (h.keep HBX.out)
 have HBT:Hid (But k w ((w.alloc (oE V E)).alloc (oI 16 A B K lab))):=But.of_below HBX.out
 have HZ:=jq hz
 clear h hz hE
 obtain⟨a0,a1,a2,a3,a4,a5,a6⟩:=zaK HXE.out
 have al:=jl HXE.out
 obtain⟨b0,b1,b4⟩:=cells5 HXI.out
 have bl:=jl HXI.out
 go_enter Tryz.func35,Tryz.ntmps35
 go_wp2_with fail
 clear a0 a1 a2 a3 a4 a5 a6 al b0 b1 b4 bl
 generalize (w.alloc (oE V E)).alloc (oI 16 A B K lab)=u0 at *
 obtain⟨y,hy⟩:∃y,w.heap.size=y:=⟨_,rfl⟩
 rw[hy] at HXE HXI HYK HYI
 simp only[hy]
 obtain⟨q,hq⟩:∃q,y+1=q:=⟨_,rfl⟩
 rw[hq] at HXI HYI
 simp only[hq]
 clear hy hq HBX
 generalize hR:typeE E A=R at *
 have HRR:=jq hR
 refine(rtype_any (f:=A) HE.out.env).mono ?_
 rw[hR]
 clear hR
 rintro e w1 ⟨⟨P1,n1,c1,Q1,m1,d1,rfl,hr1,hr2⟩,hb⟩
 have HXE:=jq (blk HXE.out hb)
 have HE:=jq (HE.out.keep hb)
 have HXI:=jq (blk HXI.out hb)
 have HBT:=jq (HBT.out.trans (But.of_below hb))
 have HC:=jq (HC.out.keep hb)
 have HR1:=jq hr1
 have HR2:=jq hr2
 clear hr1 hr2 hb
 obtain⟨a0,a1,a2,a3,a4,a5,a6⟩:=zaK HXE.out
 have al:=jl HXE.out
 obtain⟨b0,b1,b4⟩:=cells5 HXI.out
 have bl:=jl HXI.out
 have HNW:=jq (zaB w1 (.cells #[.slice P1 n1 c1,.slice Q1 m1 d1] 51))
 have HFX:=jq (zaC w1 (.cells #[.slice P1 n1 c1,.slice Q1 m1 d1] 51))
 have HZK:Hid (w1.heap.size≠k):=jq (by have:=HC.out.lt;omega)
 have HZG:Hid (k<=w1.heap.size):=jq (by have:=HC.out.lt;omega)
 have HZW:Hid (w.heap.size<=w1.heap.size):=HBT.out.size
 have HZI:Hid (w1.heap.size≠q):=jq (Nat.ne_of_gt (jl HXI.out))
 have HZE:Hid (w1.heap.size≠y):=jq (Nat.ne_of_gt (jl HXE.out))
 go_wp2_with fail
 clear a0 a1 a2 a3 a4 a5 a6 al b0 b1 b4 bl
 have HXE:=jq (blk HXE.out HNW.out)
 have HE:=jq (HE.out.keep HNW.out)
 have HXI:=jq (blk HXI.out HNW.out)
 have HR1:=jq (HR1.out.keep HNW.out)
 have HR2:=jq (HR2.out.keep HNW.out)
 have HBT:=jq (HBT.out.trans (But.of_below HNW.out))
 have HC:=jq (HC.out.keep HNW.out)
 generalize w1.alloc (.cells #[.slice P1 n1 c1,.slice Q1 m1 d1] 51)=u1 at *
 obtain⟨zz,hzz⟩:∃zz,w1.heap.size=zz:=⟨_,rfl⟩
 rw[hzz] at HFX HZK HZG HZW HZI HZE
 simp only[hzz]
 clear hzz HNW
 refine(must_wk (b:=R.isSome) HC.out (.inl (by decide))).mono ?_
 rintro e w2 ⟨rfl,hc,hbt⟩
 have HXE:=jq (hbt.bk HXE.out HYK.out)
 have HE:=jq (HE.out.but hbt HC.out.lt)
 have HXI:=jq (hbt.bk HXI.out HYI.out)
 have HFX:=jq (hbt.bk HFX.out HZK.out)
 have HR1:=jq (zaG HR1.out HC.out.nobb hbt)
 have HR2:=jq (zaG HR2.out HC.out.nobb hbt)
 have HBT:=jq (HBT.out.trans hbt)
 have HC:=jq hc
 clear hc hbt
 obtain⟨a0,a1,a2,a3,a4,a5,a6⟩:=zaK HXE.out
 have al:=jl HXE.out
 obtain⟨b0,b1,b4⟩:=cells5 HXI.out
 have bl:=jl HXI.out
 obtain⟨f0,f1⟩:=zaH HFX.out
 have fp0:=(zaA HFX.out 0).2
 have fp1:=(zaA HFX.out 1).2
 have fl:=jl HFX.out
 go_wp2_with fail
 clear a0 a1 a2 a3 a4 a5 a6 al b0 b1 b4 bl f0 f1 fp0 fp1 fl
 refine(want_wk HC.out (by have:=HZ.out;omega) HR1.out (by have:=HFB.out.1;omega)).mono ?_
 rintro e w3 ⟨rfl,hc,hbt⟩
 have HXE:=jq (hbt.bk HXE.out HYK.out)
 have HE:=jq (HE.out.but hbt HC.out.lt)
 have HXI:=jq (hbt.bk HXI.out HYI.out)
 have HFX:=jq (hbt.bk HFX.out HZK.out)
 have HR1:=jq (zaG HR1.out HC.out.nobb hbt)
 have HR2:=jq (zaG HR2.out HC.out.nobb hbt)
 have HBT:=jq (HBT.out.trans hbt)
 have HC:=jq hc
 clear hc hbt
 obtain⟨a0,a1,a2,a3,a4,a5,a6⟩:=zaK HXE.out
 have al:=jl HXE.out
 obtain⟨b0,b1,b4⟩:=cells5 HXI.out
 have bl:=jl HXI.out
 obtain⟨f0,f1⟩:=zaH HFX.out
 have fp0:=(zaA HFX.out 0).2
 have fp1:=(zaA HFX.out 1).2
 have fl:=jl HFX.out
 go_wp2_with fail
 clear a0 a1 a2 a3 a4 a5 a6 al b0 b1 b4 bl f0 f1 fp0 fp1 fl
 refine(push_wk (y:=1000) HC.out (by have:=HZ.out;omega) HR2.out HFB.out.2 (by omega)).mono ?_
 rintro e w4 ⟨rfl,hc,hbt⟩
 have HXE:=jq (hbt.bk HXE.out HYK.out)
 have HE:=jq (HE.out.but hbt HC.out.lt)
 have HXI:=jq (hbt.bk HXI.out HYI.out)
 have HFX:=jq (hbt.bk HFX.out HZK.out)
 have HBT:=jq (HBT.out.trans hbt)
 have HC:=jq hc
 clear hc hbt
 go_wp2_with fail
 exact bodyPost_end (v:=.tuple #[]) (by simp[results,Tryz.results35,go_sem]) rfl ⟨rfl,by rw[<- HD.out];exact HC.out,HBT.out⟩
theorem call_17 {w:World}{k:Nat}{x:Rs}{z:Nat}{V:EV}{E:EnvP}{A B K:Int}{lab:Value}(h:Cw w k x z)(hz:z<=300000)(hE:EvAt w k V E)(hF:FnBd E)(hA:0<=A):Calls Tryz.prog 35 #[.pointer (some ⟨k,0,none⟩),(.agg #[.slice V.Pt V.nt V.ct,.slice V.Pf V.nf V.cf,.int .i64 E.tables,.int .i64 E.mems,.slice V.Pg V.ng V.cg,.slice V.Pl V.nl V.cl,.slice V.Pr V.nr V.cr]),.agg #[.int .i64 17,.int .i64 A,.int .i64 B,.int .u64 K,lab]] w (CwEnds w k (callR ((atL E.types A).getD ([],[])) (wantR [127] (needR (atL E.types A).isSome 6 (needR (decide (0<E.tables)) 6 x)))) (z+1000) (.tuple #[])):=by
 obtain⟨Y,hY⟩:∃Y,(callR ((atL E.types A).getD ([],[])) (wantR [127] (needR (atL E.types A).isSome 6 (needR (decide (0<E.tables)) 6 x))))=Y:=⟨_,rfl⟩
 rw[hY]
 have HD:=jq hY
 clear hY
 have HFB:=jq (type_bd hF A)
 have HFA:=jq (atL_bd hF A)
 have HA:=jq hA
 clear hF hA
 have HBX:=jq (below2 w (oE V E) (oI 17 A B K lab))
 have HXE:=jq (blk (zaC w (oE V E)) (zaB (w.alloc (oE V E)) (oI 17 A B K lab)))
 have HXI:=jq (zaC (w.alloc (oE V E)) (oI 17 A B K lab))
 rw[zaD] at HXI
 have HE:=jq (hE.keep HBX.out)
 have HYK:Hid (w.heap.size≠k):=jq (by have:=h.lt;omega)
 have HYI:Hid (w.heap.size+1≠k):=jq (by have:=h.lt;omega)
 have HC:=jq (h.keep HBX.out)
 have HBT:Hid (But k w ((w.alloc (oE V E)).alloc (oI 17 A B K lab))):=But.of_below HBX.out
 have HZ:=jq hz
 clear h hz hE
 obtain⟨a0,a1,a2,a3,a4,a5,a6⟩:=zaK HXE.out
 have al:=jl HXE.out
 obtain⟨b0,b1,b4⟩:=cells5 HXI.out
 have bl:=jl HXI.out
 go_enter Tryz.func35,Tryz.ntmps35
 go_wp2_with fail
 clear a0 a1 a2 a3 a4 a5 a6 al b0 b1 b4 bl
 generalize (w.alloc (oE V E)).alloc (oI 17 A B K lab)=u0 at *
 obtain⟨y,hy⟩:∃y,w.heap.size=y:=⟨_,rfl⟩
 rw[hy] at HXE HXI HYK HYI
 simp only[hy]
 obtain⟨q,hq⟩:∃q,y+1=q:=⟨_,rfl⟩
 rw[hq] at HXI HYI
 simp only[hq]
 clear hy hq HBX
 generalize hR:typeE E A=R at *
 have HRR:=jq hR
 refine(rtype_any (f:=A) HE.out.env).mono ?_
 rw[hR]
 clear hR
 rintro e w1 ⟨⟨P1,n1,c1,Q1,m1,d1,rfl,hr1,hr2⟩,hb⟩
 have HXE:=jq (blk HXE.out hb)
 have HE:=jq (HE.out.keep hb)
 have HXI:=jq (blk HXI.out hb)
 have HBT:=jq (HBT.out.trans (But.of_below hb))
 have HC:=jq (HC.out.keep hb)
 have HR1:=jq hr1
 have HR2:=jq hr2
 clear hr1 hr2 hb
 obtain⟨a0,a1,a2,a3,a4,a5,a6⟩:=zaK HXE.out
 have al:=jl HXE.out
 obtain⟨b0,b1,b4⟩:=cells5 HXI.out
 have bl:=jl HXI.out
 have HNW:=jq (zaB w1 (.cells #[.slice P1 n1 c1,.slice Q1 m1 d1] 51))
 have HFX:=jq (zaC w1 (.cells #[.slice P1 n1 c1,.slice Q1 m1 d1] 51))
 have HZK:Hid (w1.heap.size≠k):=jq (by have:=HC.out.lt;omega)
 have HZG:Hid (k<=w1.heap.size):=jq (by have:=HC.out.lt;omega)
 have HZW:Hid (w.heap.size<=w1.heap.size):=HBT.out.size
 have HZI:Hid (w1.heap.size≠q):=jq (Nat.ne_of_gt (jl HXI.out))
 have HZE:Hid (w1.heap.size≠y):=jq (Nat.ne_of_gt (jl HXE.out))
 obtain⟨ts,hts,hmt⟩:=HE.out.env.t
 have HTS:=jq hts
 have HMT:=jq hmt
 have HLT:Hid (E.types.length=V.nt):=jq (by rw[<- hmt,List.length_map];exact row_len hts)
 clear hts hmt
 cases hb1:decide (0<E.tables) with
 | false=>
  rw[hb1] at HD
  go_wp2_with fail
  clear a0 a1 a2 a3 a4 a5 a6 al b0 b1 b4 bl
  have HXE:=jq (blk HXE.out HNW.out)
  have HE:=jq (HE.out.keep HNW.out)
  have HXI:=jq (blk HXI.out HNW.out)
  have HR1:=jq (HR1.out.keep HNW.out)
  have HR2:=jq (HR2.out.keep HNW.out)
  have HBT:=jq (HBT.out.trans (But.of_below HNW.out))
  have HC:=jq (HC.out.keep HNW.out)
  generalize w1.alloc (.cells #[.slice P1 n1 c1,.slice Q1 m1 d1] 51)=u1 at *
  obtain⟨zz,hzz⟩:∃zz,w1.heap.size=zz:=⟨_,rfl⟩
  rw[hzz] at HFX HZK HZG HZW HZI HZE
  simp only[hzz]
  clear hzz HNW
  refine(must_wk (b:=false) HC.out (.inl (by decide))).mono ?_
  rintro e w2 ⟨rfl,hc,hbt⟩
  have HXE:=jq (hbt.bk HXE.out HYK.out)
  have HE:=jq (HE.out.but hbt HC.out.lt)
  have HXI:=jq (hbt.bk HXI.out HYI.out)
  have HFX:=jq (hbt.bk HFX.out HZK.out)
  have HR1:=jq (zaG HR1.out HC.out.nobb hbt)
  have HR2:=jq (zaG HR2.out HC.out.nobb hbt)
  have HBT:=jq (HBT.out.trans hbt)
  have HC:=jq hc
  clear hc hbt
  obtain⟨a0,a1,a2,a3,a4,a5,a6⟩:=zaK HXE.out
  have al:=jl HXE.out
  obtain⟨b0,b1,b4⟩:=cells5 HXI.out
  have bl:=jl HXI.out
  obtain⟨f0,f1⟩:=zaH HFX.out
  have fp0:=(zaA HFX.out 0).2
  have fp1:=(zaA HFX.out 1).2
  have fl:=jl HFX.out
  go_wp2_with fail
  clear a0 a1 a2 a3 a4 a5 a6 al b0 b1 b4 bl f0 f1 fp0 fp1 fl
  refine(i32_wk _).mono ?_
  rintro e w3 ⟨v127,rfl,hr,hb⟩
  have HXE:=jq (blk HXE.out hb)
  have HE:=jq (HE.out.keep hb)
  have HXI:=jq (blk HXI.out hb)
  have HFX:=jq (blk HFX.out hb)
  have HR1:=jq (HR1.out.keep hb)
  have HR2:=jq (HR2.out.keep hb)
  have HBT:=jq (HBT.out.trans (But.of_below hb))
  have HC:=jq (HC.out.keep hb)
  have H127:=jq hr
  clear hb hr
  go_wp2_with fail
  refine(want_wk HC.out (by have:=HZ.out;omega) H127.out (by simp)).mono ?_
  rintro e w4 ⟨rfl,hc,hbt⟩
  have HXE:=jq (hbt.bk HXE.out HYK.out)
  have HE:=jq (HE.out.but hbt HC.out.lt)
  have HXI:=jq (hbt.bk HXI.out HYI.out)
  have HFX:=jq (hbt.bk HFX.out HZK.out)
  have HR1:=jq (zaG HR1.out HC.out.nobb hbt)
  have HR2:=jq (zaG HR2.out HC.out.nobb hbt)
  have HBT:=jq (HBT.out.trans hbt)
  have HC:=jq hc
  clear hc hbt
  obtain⟨a0,a1,a2,a3,a4,a5,a6⟩:=zaK HXE.out
  have al:=jl HXE.out
  obtain⟨b0,b1,b4⟩:=cells5 HXI.out
  have bl:=jl HXI.out
  obtain⟨f0,f1⟩:=zaH HFX.out
  have fp0:=(zaA HFX.out 0).2
  have fp1:=(zaA HFX.out 1).2
  have fl:=jl HFX.out
  go_wp2_with fail
  clear a0 a1 a2 a3 a4 a5 a6 al b0 b1 b4 bl f0 f1 fp0 fp1 fl
  refine(want_wk HC.out (by have:=HZ.out;omega) HR1.out (by have:=HFB.out.1;omega)).mono ?_
  rintro e w5 ⟨rfl,hc,hbt⟩
  have HXE:=jq (hbt.bk HXE.out HYK.out)
  have HE:=jq (HE.out.but hbt HC.out.lt)
  have HXI:=jq (hbt.bk HXI.out HYI.out)
  have HFX:=jq (hbt.bk HFX.out HZK.out)
  have HR1:=jq (zaG HR1.out HC.out.nobb hbt)
  have HR2:=jq (zaG HR2.out HC.out.nobb hbt)
  have HBT:=jq (HBT.out.trans hbt)
  have HC:=jq hc
  clear hc hbt
  obtain⟨a0,a1,a2,a3,a4,a5,a6⟩:=zaK HXE.out
  have al:=jl HXE.out
  obtain⟨b0,b1,b4⟩:=cells5 HXI.out
  have bl:=jl HXI.out
  obtain⟨f0,f1⟩:=zaH HFX.out
  have fp0:=(zaA HFX.out 0).2
  have fp1:=(zaA HFX.out 1).2
  have fl:=jl HFX.out
  go_wp2_with fail
  clear a0 a1 a2 a3 a4 a5 a6 al b0 b1 b4 bl f0 f1 fp0 fp1 fl
  refine(push_wk (y:=1000) HC.out (by have:=HZ.out;omega) HR2.out HFB.out.2 (by omega)).mono ?_
  rintro e w6 ⟨rfl,hc,hbt⟩
  have HXE:=jq (hbt.bk HXE.out HYK.out)
  have HE:=jq (HE.out.but hbt HC.out.lt)
  have HXI:=jq (hbt.bk HXI.out HYI.out)
  have HFX:=jq (hbt.bk HFX.out HZK.out)
  have HBT:=jq (HBT.out.trans hbt)
  have HC:=jq hc
  clear hc hbt
  go_wp2_with fail
  exact bodyPost_end (v:=.tuple #[]) (by simp[results,Tryz.results35,go_sem]) rfl ⟨rfl,by rw[<- HD.out];exact(call_no1 _ (R.getD ([],[])) _ x ▸ HC.out),HBT.out⟩
 | true=>
  rw[hb1] at HD
  rcases at_cases E.types A with h1 | ⟨h1,h2⟩ | ⟨j,p,rfl,h1,h2⟩
  ·exact absurd HA.out (by omega)
  ·have HD:Hid (_=Y):=jq (atL_out h2 ▸ HD.out)
   rw[HLT.out] at h2
   have t1:decide (A<(V.nt:Int))=false:=decide_eq_false (by omega)
   clear h1 h2
   go_wp2_with fail
   clear a0 a1 a2 a3 a4 a5 a6 al b0 b1 b4 bl
   have HXE:=jq (blk HXE.out HNW.out)
   have HE:=jq (HE.out.keep HNW.out)
   have HXI:=jq (blk HXI.out HNW.out)
   have HR1:=jq (HR1.out.keep HNW.out)
   have HR2:=jq (HR2.out.keep HNW.out)
   have HBT:=jq (HBT.out.trans (But.of_below HNW.out))
   have HC:=jq (HC.out.keep HNW.out)
   generalize w1.alloc (.cells #[.slice P1 n1 c1,.slice Q1 m1 d1] 51)=u1 at *
   obtain⟨zz,hzz⟩:∃zz,w1.heap.size=zz:=⟨_,rfl⟩
   rw[hzz] at HFX HZK HZG HZW HZI HZE
   simp only[hzz]
   clear hzz HNW
   refine(must_wk (b:=false) HC.out (.inl (by decide))).mono ?_
   rintro e w2 ⟨rfl,hc,hbt⟩
   have HXE:=jq (hbt.bk HXE.out HYK.out)
   have HE:=jq (HE.out.but hbt HC.out.lt)
   have HXI:=jq (hbt.bk HXI.out HYI.out)
   have HFX:=jq (hbt.bk HFX.out HZK.out)
   have HR1:=jq (zaG HR1.out HC.out.nobb hbt)
   have HR2:=jq (zaG HR2.out HC.out.nobb hbt)
   have HBT:=jq (HBT.out.trans hbt)
   have HC:=jq hc
   clear hc hbt
   obtain⟨a0,a1,a2,a3,a4,a5,a6⟩:=zaK HXE.out
   have al:=jl HXE.out
   obtain⟨b0,b1,b4⟩:=cells5 HXI.out
   have bl:=jl HXI.out
   obtain⟨f0,f1⟩:=zaH HFX.out
   have fp0:=(zaA HFX.out 0).2
   have fp1:=(zaA HFX.out 1).2
   have fl:=jl HFX.out
   go_wp2_with fail
   clear a0 a1 a2 a3 a4 a5 a6 al b0 b1 b4 bl f0 f1 fp0 fp1 fl
   refine(i32_wk _).mono ?_
   rintro e w3 ⟨v127,rfl,hr,hb⟩
   have HXE:=jq (blk HXE.out hb)
   have HE:=jq (HE.out.keep hb)
   have HXI:=jq (blk HXI.out hb)
   have HFX:=jq (blk HFX.out hb)
   have HR1:=jq (HR1.out.keep hb)
   have HR2:=jq (HR2.out.keep hb)
   have HBT:=jq (HBT.out.trans (But.of_below hb))
   have HC:=jq (HC.out.keep hb)
   have H127:=jq hr
   clear hb hr
   go_wp2_with fail
   refine(want_wk HC.out (by have:=HZ.out;omega) H127.out (by simp)).mono ?_
   rintro e w4 ⟨rfl,hc,hbt⟩
   have HXE:=jq (hbt.bk HXE.out HYK.out)
   have HE:=jq (HE.out.but hbt HC.out.lt)
   have HXI:=jq (hbt.bk HXI.out HYI.out)
   have HFX:=jq (hbt.bk HFX.out HZK.out)
   have HR1:=jq (zaG HR1.out HC.out.nobb hbt)
   have HR2:=jq (zaG HR2.out HC.out.nobb hbt)
   have HBT:=jq (HBT.out.trans hbt)
   have HC:=jq hc
   clear hc hbt
   obtain⟨a0,a1,a2,a3,a4,a5,a6⟩:=zaK HXE.out
   have al:=jl HXE.out
   obtain⟨b0,b1,b4⟩:=cells5 HXI.out
   have bl:=jl HXI.out
   obtain⟨f0,f1⟩:=zaH HFX.out
   have fp0:=(zaA HFX.out 0).2
   have fp1:=(zaA HFX.out 1).2
   have fl:=jl HFX.out
   go_wp2_with fail
   clear a0 a1 a2 a3 a4 a5 a6 al b0 b1 b4 bl f0 f1 fp0 fp1 fl
   refine(want_wk HC.out (by have:=HZ.out;omega) HR1.out (by have:=HFB.out.1;omega)).mono ?_
   rintro e w5 ⟨rfl,hc,hbt⟩
   have HXE:=jq (hbt.bk HXE.out HYK.out)
   have HE:=jq (HE.out.but hbt HC.out.lt)
   have HXI:=jq (hbt.bk HXI.out HYI.out)
   have HFX:=jq (hbt.bk HFX.out HZK.out)
   have HR1:=jq (zaG HR1.out HC.out.nobb hbt)
   have HR2:=jq (zaG HR2.out HC.out.nobb hbt)
   have HBT:=jq (HBT.out.trans hbt)
   have HC:=jq hc
   clear hc hbt
   obtain⟨a0,a1,a2,a3,a4,a5,a6⟩:=zaK HXE.out
   have al:=jl HXE.out
   obtain⟨b0,b1,b4⟩:=cells5 HXI.out
   have bl:=jl HXI.out
   obtain⟨f0,f1⟩:=zaH HFX.out
   have fp0:=(zaA HFX.out 0).2
   have fp1:=(zaA HFX.out 1).2
   have fl:=jl HFX.out
   go_wp2_with fail
   clear a0 a1 a2 a3 a4 a5 a6 al b0 b1 b4 bl f0 f1 fp0 fp1 fl
   refine(push_wk (y:=1000) HC.out (by have:=HZ.out;omega) HR2.out HFB.out.2 (by omega)).mono ?_
   rintro e w6 ⟨rfl,hc,hbt⟩
   have HXE:=jq (hbt.bk HXE.out HYK.out)
   have HE:=jq (HE.out.but hbt HC.out.lt)
   have HXI:=jq (hbt.bk HXI.out HYI.out)
   have HFX:=jq (hbt.bk HFX.out HZK.out)
   have HBT:=jq (HBT.out.trans hbt)
   have HC:=jq hc
   clear hc hbt
   go_wp2_with fail
   exact bodyPost_end (v:=.tuple #[]) (by simp[results,Tryz.results35,go_sem]) rfl ⟨rfl,by rw[<- HD.out,needR_true];exact(call_no2 ((none:Option (List Int×List Int)).getD ([],[])) (R.getD ([],[])) x ▸ HC.out),HBT.out⟩
  ·have HD:Hid (_=Y):=jq (atL_in h2 ▸ HD.out)
   have HFA:Hid (p.1.length<=1000/\p.2.length<=1000):=jq (by have h:=HFA.out;rw[atL_in h2] at h;exact h)
   obtain⟨pv,hpv,hpe⟩:∃pv,ts[j]? = some pv/\pv.1=p:=by
    rw[<- HMT.out,List.getElem?_map] at h2
    cases hh:ts[j]? with
    | none=>rw[hh] at h2;cases h2
    | some x=>rw[hh] at h2;injection h2 with h2;exact⟨x,rfl,h2⟩
   obtain⟨g2,off2,q2,P2,n2,c2,Q2,m2,d2,hPt,hgl,hq2,e0,e1,hr1,hr2⟩:=row_fn HTS.out hpv
   rw[hpe] at hr1 hr2
   have HR1:=jq hr1
   have HR2:=jq hr2
   rw[HLT.out] at h1
   have t1:decide ((j:Int)<(V.nt:Int))=true:=decide_eq_true (by omega)
   have t1':decide (j<V.nt)=true:=decide_eq_true h1
   have i1:(0:Int)<=(j:Int):=by omega
   have i2:(j:Int)<(V.nt:Int):=by omega
   rw[hPt] at a0
   clear h1 h2 hr1 hr2 hpv hpe hPt HNW HFX
   have HNW:=jq (zaB w1 (.cells #[.slice P2 n2 c2,.slice Q2 m2 d2] 51))
   have HFX:=jq (zaC w1 (.cells #[.slice P2 n2 c2,.slice Q2 m2 d2] 51))
   go_wp2_with fail
   clear a0 a1 a2 a3 a4 a5 a6 al b0 b1 b4 bl e0 e1 hgl
   have HXE:=jq (blk HXE.out HNW.out)
   have HE:=jq (HE.out.keep HNW.out)
   have HXI:=jq (blk HXI.out HNW.out)
   have HR1:=jq (HR1.out.keep HNW.out)
   have HR2:=jq (HR2.out.keep HNW.out)
   have HBT:=jq (HBT.out.trans (But.of_below HNW.out))
   have HC:=jq (HC.out.keep HNW.out)
   generalize w1.alloc (.cells #[.slice P2 n2 c2,.slice Q2 m2 d2] 51)=u1 at *
   obtain⟨zz,hzz⟩:∃zz,w1.heap.size=zz:=⟨_,rfl⟩
   rw[hzz] at HFX HZK HZG HZW HZI HZE
   simp only[hzz]
   clear hzz HNW
   refine(must_wk (b:=true) HC.out (.inr rfl)).mono ?_
   rintro e w2 ⟨rfl,hc,hbt⟩
   have HXE:=jq (hbt.bk HXE.out HYK.out)
   have HE:=jq (HE.out.but hbt HC.out.lt)
   have HXI:=jq (hbt.bk HXI.out HYI.out)
   have HFX:=jq (hbt.bk HFX.out HZK.out)
   have HR1:=jq (zaG HR1.out HC.out.nobb hbt)
   have HR2:=jq (zaG HR2.out HC.out.nobb hbt)
   have HBT:=jq (HBT.out.trans hbt)
   have HC:=jq hc
   clear hc hbt
   obtain⟨a0,a1,a2,a3,a4,a5,a6⟩:=zaK HXE.out
   have al:=jl HXE.out
   obtain⟨b0,b1,b4⟩:=cells5 HXI.out
   have bl:=jl HXI.out
   obtain⟨f0,f1⟩:=zaH HFX.out
   have fp0:=(zaA HFX.out 0).2
   have fp1:=(zaA HFX.out 1).2
   have fl:=jl HFX.out
   go_wp2_with fail
   clear a0 a1 a2 a3 a4 a5 a6 al b0 b1 b4 bl f0 f1 fp0 fp1 fl
   refine(i32_wk _).mono ?_
   rintro e w3 ⟨v127,rfl,hr,hb⟩
   have HXE:=jq (blk HXE.out hb)
   have HE:=jq (HE.out.keep hb)
   have HXI:=jq (blk HXI.out hb)
   have HFX:=jq (blk HFX.out hb)
   have HR1:=jq (HR1.out.keep hb)
   have HR2:=jq (HR2.out.keep hb)
   have HBT:=jq (HBT.out.trans (But.of_below hb))
   have HC:=jq (HC.out.keep hb)
   have H127:=jq hr
   clear hb hr
   go_wp2_with fail
   refine(want_wk HC.out (by have:=HZ.out;omega) H127.out (by simp)).mono ?_
   rintro e w4 ⟨rfl,hc,hbt⟩
   have HXE:=jq (hbt.bk HXE.out HYK.out)
   have HE:=jq (HE.out.but hbt HC.out.lt)
   have HXI:=jq (hbt.bk HXI.out HYI.out)
   have HFX:=jq (hbt.bk HFX.out HZK.out)
   have HR1:=jq (zaG HR1.out HC.out.nobb hbt)
   have HR2:=jq (zaG HR2.out HC.out.nobb hbt)
   have HBT:=jq (HBT.out.trans hbt)
   have HC:=jq hc
   clear hc hbt
   obtain⟨a0,a1,a2,a3,a4,a5,a6⟩:=zaK HXE.out
   have al:=jl HXE.out
   obtain⟨b0,b1,b4⟩:=cells5 HXI.out
   have bl:=jl HXI.out
   obtain⟨f0,f1⟩:=zaH HFX.out
   have fp0:=(zaA HFX.out 0).2
   have fp1:=(zaA HFX.out 1).2
   have fl:=jl HFX.out
   go_wp2_with fail
   clear a0 a1 a2 a3 a4 a5 a6 al b0 b1 b4 bl f0 f1 fp0 fp1 fl
   refine(want_wk HC.out (by have:=HZ.out;omega) HR1.out (by have:=HFA.out.1;omega)).mono ?_
   rintro e w5 ⟨rfl,hc,hbt⟩
   have HXE:=jq (hbt.bk HXE.out HYK.out)
   have HE:=jq (HE.out.but hbt HC.out.lt)
   have HXI:=jq (hbt.bk HXI.out HYI.out)
   have HFX:=jq (hbt.bk HFX.out HZK.out)
   have HR1:=jq (zaG HR1.out HC.out.nobb hbt)
   have HR2:=jq (zaG HR2.out HC.out.nobb hbt)
   have HBT:=jq (HBT.out.trans hbt)
   have HC:=jq hc
   clear hc hbt
   obtain⟨a0,a1,a2,a3,a4,a5,a6⟩:=zaK HXE.out
   have al:=jl HXE.out
   obtain⟨b0,b1,b4⟩:=cells5 HXI.out
   have bl:=jl HXI.out
   obtain⟨f0,f1⟩:=zaH HFX.out
   have fp0:=(zaA HFX.out 0).2
   have fp1:=(zaA HFX.out 1).2
   have fl:=jl HFX.out
   go_wp2_with fail
   clear a0 a1 a2 a3 a4 a5 a6 al b0 b1 b4 bl f0 f1 fp0 fp1 fl
   refine(push_wk (y:=1000) HC.out (by have:=HZ.out;omega) HR2.out HFA.out.2 (by omega)).mono ?_
   rintro e w6 ⟨rfl,hc,hbt⟩
   have HXE:=jq (hbt.bk HXE.out HYK.out)
   have HE:=jq (HE.out.but hbt HC.out.lt)
   have HXI:=jq (hbt.bk HXI.out HYI.out)
   have HFX:=jq (hbt.bk HFX.out HZK.out)
   have HBT:=jq (HBT.out.trans hbt)
   have HC:=jq hc
   clear hc hbt
   go_wp2_with fail
   exact bodyPost_end (v:=.tuple #[]) (by simp[results,Tryz.results35,go_sem]) rfl ⟨rfl,by rw[<- HD.out];show Cw _ k (pushR p.2 (wantR p.1 (wantR [127] (needR true 6 (needR true 6 x))))) _;rw[needR_true 6 (needR true 6 x)];exact HC.out,HBT.out⟩
end Go.Proofs.YtlappkflnlbfcaaGreatDoor.Chk
