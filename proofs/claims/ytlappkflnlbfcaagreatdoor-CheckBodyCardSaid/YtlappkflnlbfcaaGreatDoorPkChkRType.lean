import Derived.Test.YtlappkflnlbfcaaGreatDoorPkChkWk3
import Derived.Test.YtlappkflnlbfcaaGreatDoorPkChkNamed
namespace Go.Proofs.YtlappkflnlbfcaaGreatDoor.Chk
open Lib renaming hid → jq
open Go.RowKit Row9 Stk
set_option maxRecDepth 100000
set_option maxHeartbeats 2000000
set_option linter.unusedVariables false
theorem row_len {α:Type}{T:El α}{w:World}{P:Option Addr}{n c:Nat}{l:List α}(h:Row T w (.slice P n c) l):l.length=n:=by
 obtain⟨_,_,e,_⟩:=h.form
 injection e with _ e
 exact e.symm
theorem row_byte {w:World}{P:Option Addr}{n c:Nat}{l:List Int}(h:Row elB w (.slice P n c) l){k:Nat}{p:Int}(hk:l[k]? = some p):∃g off q,P=some ⟨g,off,none⟩/\off+k=q/\w.cell? ⟨g,q,none⟩=some (.int .u8 p)/\(0<=p/\p<256):=by
 obtain⟨g,off,e,hg,hA,hok⟩:=h.at_ hk
 have c0:=hA 0 _ rfl
 exact⟨g,off,off+k,e,rfl,by simpa [elB] using c0,hok⟩
theorem row_glob {w:World}{P:Option Addr}{n c:Nat}{l:List (Int×Bool)}(h:Row elGD w (.slice P n c) l){k:Nat}{p:Int×Bool}(hk:l[k]? = some p):∃g off q,P=some ⟨g,off,none⟩/\off+k*2=q/\w.cell? ⟨g,q,none⟩=some (.int .u8 p.1)/\w.cell? ⟨g,q+1,none⟩=some (.bool p.2)/\(0<=p.1/\p.1<256):=by
 obtain⟨g,off,e,hg,hA,hok⟩:=h.at_ hk
 have c0:=hA 0 _ rfl
 have c1:=hA 1 _ rfl
 exact⟨g,off,off+k*2,e,rfl,by simpa [elGD,elGl] using c0,by simpa [elGD,elGl] using c1,hok⟩
theorem needR_true (e:Int)(x:Rs):needR true e x=x:=by cases x <;> rfl
theorem need_out36 (x:Rs):wantR [0] (needR false 5 (needR false 6 x))=wantR [0] (needR false 6 x):=by cases x <;> rfl
theorem variable_32 {w:World}{k:Nat}{x:Rs}{z:Nat}{V:EV}{E:EnvP}{A B K:Int}{lab:Value}(h:Cw w k x z)(hz:z<=300000)(hE:EvAt w k V E)(hA:0<=A):Calls Tryz.prog 37 #[.pointer (some ⟨k,0,none⟩),(.agg #[.slice V.Pt V.nt V.ct,.slice V.Pf V.nf V.cf,.int .i64 E.tables,.int .i64 E.mems,.slice V.Pg V.ng V.cg,.slice V.Pl V.nl V.cl,.slice V.Pr V.nr V.cr]),.agg #[.int .i64 32,.int .i64 A,.int .i64 B,.int .u64 K,lab]] w (CwEnds w k (pushR [(atL E.locals A).getD 0] (needR (atL E.locals A).isSome 6 x)) (z+1) (.tuple #[])):=by
 obtain⟨Y,hY⟩:∃Y,(pushR [(atL E.locals A).getD 0] (needR (atL E.locals A).isSome 6 x))=Y:=⟨_,rfl⟩
 rw[hY]
 have HD:=jq hY
 clear hY
 have HA:=jq hA
 have HBX:=jq (below2 w (oE V E) (oI 32 A B K lab))
 have HXE:=jq (blk (zaC w (oE V E)) (zaB (w.alloc (oE V E)) (oI 32 A B K lab)))
 have HXI:=jq (zaC (w.alloc (oE V E)) (oI 32 A B K lab))
 rw[zaD] at HXI
 have HE:=jq (hE.keep HBX.out)
 have HYK:Hid (w.heap.size≠k):=jq (by have:=h.lt;omega)
 have HYI:Hid (w.heap.size+1≠k):=jq (by have:=h.lt;omega)
 have HC:=jq (h.keep HBX.out)
 have HBT:Hid (But k w ((w.alloc (oE V E)).alloc (oI 32 A B K lab))):=But.of_below HBX.out
 have HZ:=jq hz
 clear h hz hE hA
 obtain⟨a0,a1,a2,a3,a4,a5,a6⟩:=zaK HXE.out
 have al:=jl HXE.out
 obtain⟨b0,b1,b4⟩:=cells5 HXI.out
 have bl:=jl HXI.out
 go_enter Tryz.func37,Tryz.ntmps37
 go_wp2_with fail
 clear a0 a1 a2 a3 a4 a5 a6 al b0 b1 b4 bl
 generalize (w.alloc (oE V E)).alloc (oI 32 A B K lab)=u0 at *
 obtain⟨y,hy⟩:∃y,w.heap.size=y:=⟨_,rfl⟩
 rw[hy] at HXE HXI HYK HYI
 simp only[hy]
 obtain⟨q,hq⟩:∃q,y+1=q:=⟨_,rfl⟩
 rw[hq] at HXI HYI
 simp only[hq]
 clear hy hq HBX
 have HLN:=jq (row_len HE.out.env.l)
 rcases at_cases E.locals A with h1 | ⟨h1,h2⟩ | ⟨j,p,rfl,h1,h2⟩
 ·exact absurd HA.out (by omega)
 ·have HD:Hid (_=Y):=jq (atL_out h2 ▸ HD.out)
  rw[HLN.out] at h2
  have t1:decide (A<(V.nl:Int))=false:=decide_eq_false (by omega)
  clear h1 h2
  simp only[t1]
  refine(must_wk (b:=false) HC.out (.inl (by decide))).mono ?_
  rintro e w1 ⟨rfl,hc,hbt⟩
  have HXE:=jq (hbt.bk HXE.out HYK.out)
  have HE:=jq (HE.out.but hbt HC.out.lt)
  have HXI:=jq (hbt.bk HXI.out HYI.out)
  have HBT:=jq (HBT.out.trans hbt)
  have HC:=jq hc
  clear hc hbt
  obtain⟨a0,a1,a2,a3,a4,a5,a6⟩:=zaK HXE.out
  have al:=jl HXE.out
  obtain⟨b0,b1,b4⟩:=cells5 HXI.out
  have bl:=jl HXI.out
  go_wp2_with fail
  clear a0 a1 a2 a3 a4 a5 a6 al b0 b1 b4 bl
  have HNW:=jq (zaB w1 (.cells #[.int .u8 0] 5))
  have HL2:=jq (zaL w1 0 ⟨by omega,by omega⟩)
  have HXE:=jq (blk HXE.out HNW.out)
  have HE:=jq (HE.out.keep HNW.out)
  have HXI:=jq (blk HXI.out HNW.out)
  have HBT:=jq (HBT.out.trans (But.of_below HNW.out))
  have HC:=jq (HC.out.keep HNW.out)
  clear HNW
  refine(push_wk (y:=1) HC.out (by have:=HZ.out;omega) HL2.out (by simp) (by omega)).mono ?_
  rintro e w2 ⟨rfl,hc,hbt⟩
  have HXE:=jq (hbt.bk HXE.out HYK.out)
  have HE:=jq (HE.out.but hbt HC.out.lt)
  have HXI:=jq (hbt.bk HXI.out HYI.out)
  have HBT:=jq (HBT.out.trans hbt)
  have HC:=jq hc
  clear hc hbt
  go_wp2_with fail
  exact bodyPost_end (v:=.tuple #[]) (by simp[results,Tryz.results37,go_sem]) rfl ⟨rfl,by rw[<- HD.out];exact HC.out.mono (by omega),HBT.out⟩
 ·have HP:=jq h2
  have HD:Hid (_=Y):=jq (atL_in h2 ▸ HD.out)
  rw[HLN.out] at h1
  have t1:decide ((j:Int)<(V.nl:Int))=true:=decide_eq_true (by omega)
  have t1':decide (j<V.nl)=true:=decide_eq_true h1
  have i1:(0:Int)<=(j:Int):=by omega
  have i2:(j:Int)<(V.nl:Int):=by omega
  clear h1 h2
  simp only[t1]
  refine(must_wk (b:=true) HC.out (.inr rfl)).mono ?_
  rintro e w1 ⟨rfl,hc,hbt⟩
  have HXE:=jq (hbt.bk HXE.out HYK.out)
  have HE:=jq (HE.out.but hbt HC.out.lt)
  have HXI:=jq (hbt.bk HXI.out HYI.out)
  have HBT:=jq (HBT.out.trans hbt)
  have HC:=jq hc
  clear hc hbt
  obtain⟨a0,a1,a2,a3,a4,a5,a6⟩:=zaK HXE.out
  have al:=jl HXE.out
  obtain⟨b0,b1,b4⟩:=cells5 HXI.out
  have bl:=jl HXI.out
  obtain⟨gg,off,r,hPl,hr,g0,hrg⟩:=row_byte HE.out.env.l HP.out
  rw[hPl] at a5
  have HRG:=jq hrg
  clear hPl hrg
  go_wp2_with fail
  clear g0 a0 a1 a2 a3 a4 a5 a6 al b0 b1 b4 bl
  have HNW:=jq (zaB w1 (.cells #[.int .u8 p] 5))
  have HL2:=jq (zaL w1 p HRG.out)
  have HXE:=jq (blk HXE.out HNW.out)
  have HE:=jq (HE.out.keep HNW.out)
  have HXI:=jq (blk HXI.out HNW.out)
  have HBT:=jq (HBT.out.trans (But.of_below HNW.out))
  have HC:=jq (HC.out.keep HNW.out)
  clear HNW
  refine(push_wk (y:=1) HC.out (by have:=HZ.out;omega) HL2.out (by simp) (by omega)).mono ?_
  rintro e w2 ⟨rfl,hc,hbt⟩
  have HXE:=jq (hbt.bk HXE.out HYK.out)
  have HE:=jq (HE.out.but hbt HC.out.lt)
  have HXI:=jq (hbt.bk HXI.out HYI.out)
  have HBT:=jq (HBT.out.trans hbt)
  have HC:=jq hc
  clear hc hbt
  go_wp2_with fail
  exact bodyPost_end (v:=.tuple #[]) (by simp[results,Tryz.results37,go_sem]) rfl ⟨rfl,by rw[<- HD.out];exact HC.out.mono (by omega),HBT.out⟩
theorem variable_33 {w:World}{k:Nat}{x:Rs}{z:Nat}{V:EV}{E:EnvP}{A B K:Int}{lab:Value}(h:Cw w k x z)(hz:z<=300000)(hE:EvAt w k V E)(hA:0<=A):Calls Tryz.prog 37 #[.pointer (some ⟨k,0,none⟩),(.agg #[.slice V.Pt V.nt V.ct,.slice V.Pf V.nf V.cf,.int .i64 E.tables,.int .i64 E.mems,.slice V.Pg V.ng V.cg,.slice V.Pl V.nl V.cl,.slice V.Pr V.nr V.cr]),.agg #[.int .i64 33,.int .i64 A,.int .i64 B,.int .u64 K,lab]] w (CwEnds w k (wantR [(atL E.locals A).getD 0] (needR (atL E.locals A).isSome 6 x)) (z+1) (.tuple #[])):=by
 obtain⟨Y,hY⟩:∃Y,(wantR [(atL E.locals A).getD 0] (needR (atL E.locals A).isSome 6 x))=Y:=⟨_,rfl⟩
 rw[hY]
 have HD:=jq hY
 clear hY
 have HA:=jq hA
 have HBX:=jq (below2 w (oE V E) (oI 33 A B K lab))
 have HXE:=jq (blk (zaC w (oE V E)) (zaB (w.alloc (oE V E)) (oI 33 A B K lab)))
 have HXI:=jq (zaC (w.alloc (oE V E)) (oI 33 A B K lab))
 rw[zaD] at HXI
 have HE:=jq (hE.keep HBX.out)
 have HYK:Hid (w.heap.size≠k):=jq (by have:=h.lt;omega)
 have HYI:Hid (w.heap.size+1≠k):=jq (by have:=h.lt;omega)
 have HC:=jq (h.keep HBX.out)
 have HBT:Hid (But k w ((w.alloc (oE V E)).alloc (oI 33 A B K lab))):=But.of_below HBX.out
 have HZ:=jq hz
 clear h hz hE hA
 obtain⟨a0,a1,a2,a3,a4,a5,a6⟩:=zaK HXE.out
 have al:=jl HXE.out
 obtain⟨b0,b1,b4⟩:=cells5 HXI.out
 have bl:=jl HXI.out
 go_enter Tryz.func37,Tryz.ntmps37
 go_wp2_with fail
 clear a0 a1 a2 a3 a4 a5 a6 al b0 b1 b4 bl
 generalize (w.alloc (oE V E)).alloc (oI 33 A B K lab)=u0 at *
 obtain⟨y,hy⟩:∃y,w.heap.size=y:=⟨_,rfl⟩
 rw[hy] at HXE HXI HYK HYI
 simp only[hy]
 obtain⟨q,hq⟩:∃q,y+1=q:=⟨_,rfl⟩
 rw[hq] at HXI HYI
 simp only[hq]
 clear hy hq HBX
 have HLN:=jq (row_len HE.out.env.l)
 rcases at_cases E.locals A with h1 | ⟨h1,h2⟩ | ⟨j,p,rfl,h1,h2⟩
 ·exact absurd HA.out (by omega)
 ·have HD:Hid (_=Y):=jq (atL_out h2 ▸ HD.out)
  rw[HLN.out] at h2
  have t1:decide (A<(V.nl:Int))=false:=decide_eq_false (by omega)
  clear h1 h2
  simp only[t1]
  refine(must_wk (b:=false) HC.out (.inl (by decide))).mono ?_
  rintro e w1 ⟨rfl,hc,hbt⟩
  have HXE:=jq (hbt.bk HXE.out HYK.out)
  have HE:=jq (HE.out.but hbt HC.out.lt)
  have HXI:=jq (hbt.bk HXI.out HYI.out)
  have HBT:=jq (HBT.out.trans hbt)
  have HC:=jq hc
  clear hc hbt
  obtain⟨a0,a1,a2,a3,a4,a5,a6⟩:=zaK HXE.out
  have al:=jl HXE.out
  obtain⟨b0,b1,b4⟩:=cells5 HXI.out
  have bl:=jl HXI.out
  go_wp2_with fail
  clear a0 a1 a2 a3 a4 a5 a6 al b0 b1 b4 bl
  have HNW:=jq (zaB w1 (.cells #[.int .u8 0] 5))
  have HL1:=jq (zaL w1 0 ⟨by omega,by omega⟩)
  have HXE:=jq (blk HXE.out HNW.out)
  have HE:=jq (HE.out.keep HNW.out)
  have HXI:=jq (blk HXI.out HNW.out)
  have HBT:=jq (HBT.out.trans (But.of_below HNW.out))
  have HC:=jq (HC.out.keep HNW.out)
  clear HNW
  refine(want_wk HC.out (by have:=HZ.out;omega) HL1.out (by simp)).mono ?_
  rintro e w2 ⟨rfl,hc,hbt⟩
  have HXE:=jq (hbt.bk HXE.out HYK.out)
  have HE:=jq (HE.out.but hbt HC.out.lt)
  have HXI:=jq (hbt.bk HXI.out HYI.out)
  have HBT:=jq (HBT.out.trans hbt)
  have HC:=jq hc
  clear hc hbt
  obtain⟨a0,a1,a2,a3,a4,a5,a6⟩:=zaK HXE.out
  have al:=jl HXE.out
  obtain⟨b0,b1,b4⟩:=cells5 HXI.out
  have bl:=jl HXI.out
  go_wp2_with fail
  clear a0 a1 a2 a3 a4 a5 a6 al b0 b1 b4 bl
  exact bodyPost_end (v:=.tuple #[]) (by simp[results,Tryz.results37,go_sem]) rfl ⟨rfl,by rw[<- HD.out];exact HC.out.mono (by omega),HBT.out⟩
 ·have HP:=jq h2
  have HD:Hid (_=Y):=jq (atL_in h2 ▸ HD.out)
  rw[HLN.out] at h1
  have t1:decide ((j:Int)<(V.nl:Int))=true:=decide_eq_true (by omega)
  have t1':decide (j<V.nl)=true:=decide_eq_true h1
  have i1:(0:Int)<=(j:Int):=by omega
  have i2:(j:Int)<(V.nl:Int):=by omega
  clear h1 h2
  simp only[t1]
  refine(must_wk (b:=true) HC.out (.inr rfl)).mono ?_
  rintro e w1 ⟨rfl,hc,hbt⟩
  have HXE:=jq (hbt.bk HXE.out HYK.out)
  have HE:=jq (HE.out.but hbt HC.out.lt)
  have HXI:=jq (hbt.bk HXI.out HYI.out)
  have HBT:=jq (HBT.out.trans hbt)
  have HC:=jq hc
  clear hc hbt
  obtain⟨a0,a1,a2,a3,a4,a5,a6⟩:=zaK HXE.out
  have al:=jl HXE.out
  obtain⟨b0,b1,b4⟩:=cells5 HXI.out
  have bl:=jl HXI.out
  obtain⟨gg,off,r,hPl,hr,g0,hrg⟩:=row_byte HE.out.env.l HP.out
  rw[hPl] at a5
  have HRG:=jq hrg
  clear hPl hrg
  go_wp2_with fail
  clear g0 a0 a1 a2 a3 a4 a5 a6 al b0 b1 b4 bl
  have HNW:=jq (zaB w1 (.cells #[.int .u8 p] 5))
  have HL1:=jq (zaL w1 p HRG.out)
  have HXE:=jq (blk HXE.out HNW.out)
  have HE:=jq (HE.out.keep HNW.out)
  have HXI:=jq (blk HXI.out HNW.out)
  have HBT:=jq (HBT.out.trans (But.of_below HNW.out))
  have HC:=jq (HC.out.keep HNW.out)
  clear HNW
  refine(want_wk HC.out (by have:=HZ.out;omega) HL1.out (by simp)).mono ?_
  rintro e w2 ⟨rfl,hc,hbt⟩
  have HXE:=jq (hbt.bk HXE.out HYK.out)
  have HE:=jq (HE.out.but hbt HC.out.lt)
  have HXI:=jq (hbt.bk HXI.out HYI.out)
  have HBT:=jq (HBT.out.trans hbt)
  have HC:=jq hc
  clear hc hbt
  obtain⟨a0,a1,a2,a3,a4,a5,a6⟩:=zaK HXE.out
  have al:=jl HXE.out
  obtain⟨b0,b1,b4⟩:=cells5 HXI.out
  have bl:=jl HXI.out
  go_wp2_with fail
  clear a0 a1 a2 a3 a4 a5 a6 al b0 b1 b4 bl
  exact bodyPost_end (v:=.tuple #[]) (by simp[results,Tryz.results37,go_sem]) rfl ⟨rfl,by rw[<- HD.out];exact HC.out.mono (by omega),HBT.out⟩
theorem variable_34 {w:World}{k:Nat}{x:Rs}{z:Nat}{V:EV}{E:EnvP}{A B K:Int}{lab:Value}(h:Cw w k x z)(hz:z<=300000)(hE:EvAt w k V E)(hA:0<=A):Calls Tryz.prog 37 #[.pointer (some ⟨k,0,none⟩),(.agg #[.slice V.Pt V.nt V.ct,.slice V.Pf V.nf V.cf,.int .i64 E.tables,.int .i64 E.mems,.slice V.Pg V.ng V.cg,.slice V.Pl V.nl V.cl,.slice V.Pr V.nr V.cr]),.agg #[.int .i64 34,.int .i64 A,.int .i64 B,.int .u64 K,lab]] w (CwEnds w k (pushR [(atL E.locals A).getD 0] (wantR [(atL E.locals A).getD 0] (needR (atL E.locals A).isSome 6 x))) (z+1) (.tuple #[])):=by
 obtain⟨Y,hY⟩:∃Y,(pushR [(atL E.locals A).getD 0] (wantR [(atL E.locals A).getD 0] (needR (atL E.locals A).isSome 6 x)))=Y:=⟨_,rfl⟩
 rw[hY]
 have HD:=jq hY
 clear hY
 have HA:=jq hA
 have HBX:=jq (below2 w (oE V E) (oI 34 A B K lab))
 have HXE:=jq (blk (zaC w (oE V E)) (zaB (w.alloc (oE V E)) (oI 34 A B K lab)))
 have HXI:=jq (zaC (w.alloc (oE V E)) (oI 34 A B K lab))
 rw[zaD] at HXI
 have HE:=jq (hE.keep HBX.out)
 have HYK:Hid (w.heap.size≠k):=jq (by have:=h.lt;omega)
 have HYI:Hid (w.heap.size+1≠k):=jq (by have:=h.lt;omega)
 have HC:=jq (h.keep HBX.out)
 have HBT:Hid (But k w ((w.alloc (oE V E)).alloc (oI 34 A B K lab))):=But.of_below HBX.out
 have HZ:=jq hz
 clear h hz hE hA
 obtain⟨a0,a1,a2,a3,a4,a5,a6⟩:=zaK HXE.out
 have al:=jl HXE.out
 obtain⟨b0,b1,b4⟩:=cells5 HXI.out
 have bl:=jl HXI.out
 go_enter Tryz.func37,Tryz.ntmps37
 go_wp2_with fail
 clear a0 a1 a2 a3 a4 a5 a6 al b0 b1 b4 bl
 generalize (w.alloc (oE V E)).alloc (oI 34 A B K lab)=u0 at *
 obtain⟨y,hy⟩:∃y,w.heap.size=y:=⟨_,rfl⟩
 rw[hy] at HXE HXI HYK HYI
 simp only[hy]
 obtain⟨q,hq⟩:∃q,y+1=q:=⟨_,rfl⟩
 rw[hq] at HXI HYI
 simp only[hq]
 clear hy hq HBX
 have HLN:=jq (row_len HE.out.env.l)
 rcases at_cases E.locals A with h1 | ⟨h1,h2⟩ | ⟨j,p,rfl,h1,h2⟩
 ·exact absurd HA.out (by omega)
 ·have HD:Hid (_=Y):=jq (atL_out h2 ▸ HD.out)
  rw[HLN.out] at h2
  have t1:decide (A<(V.nl:Int))=false:=decide_eq_false (by omega)
  clear h1 h2
  simp only[t1]
  refine(must_wk (b:=false) HC.out (.inl (by decide))).mono ?_
  rintro e w1 ⟨rfl,hc,hbt⟩
  have HXE:=jq (hbt.bk HXE.out HYK.out)
  have HE:=jq (HE.out.but hbt HC.out.lt)
  have HXI:=jq (hbt.bk HXI.out HYI.out)
  have HBT:=jq (HBT.out.trans hbt)
  have HC:=jq hc
  clear hc hbt
  obtain⟨a0,a1,a2,a3,a4,a5,a6⟩:=zaK HXE.out
  have al:=jl HXE.out
  obtain⟨b0,b1,b4⟩:=cells5 HXI.out
  have bl:=jl HXI.out
  go_wp2_with fail
  clear a0 a1 a2 a3 a4 a5 a6 al b0 b1 b4 bl
  have HNW:=jq (zaB w1 (.cells #[.int .u8 0] 5))
  have HL1:=jq (zaL w1 0 ⟨by omega,by omega⟩)
  have HXE:=jq (blk HXE.out HNW.out)
  have HE:=jq (HE.out.keep HNW.out)
  have HXI:=jq (blk HXI.out HNW.out)
  have HBT:=jq (HBT.out.trans (But.of_below HNW.out))
  have HC:=jq (HC.out.keep HNW.out)
  clear HNW
  refine(want_wk HC.out (by have:=HZ.out;omega) HL1.out (by simp)).mono ?_
  rintro e w2 ⟨rfl,hc,hbt⟩
  have HXE:=jq (hbt.bk HXE.out HYK.out)
  have HE:=jq (HE.out.but hbt HC.out.lt)
  have HXI:=jq (hbt.bk HXI.out HYI.out)
  have HBT:=jq (HBT.out.trans hbt)
  have HC:=jq hc
  clear hc hbt
  obtain⟨a0,a1,a2,a3,a4,a5,a6⟩:=zaK HXE.out
  have al:=jl HXE.out
  obtain⟨b0,b1,b4⟩:=cells5 HXI.out
  have bl:=jl HXI.out
  go_wp2_with fail
  clear a0 a1 a2 a3 a4 a5 a6 al b0 b1 b4 bl
  have HNW:=jq (zaB w2 (.cells #[.int .u8 0] 5))
  have HL2:=jq (zaL w2 0 ⟨by omega,by omega⟩)
  have HXE:=jq (blk HXE.out HNW.out)
  have HE:=jq (HE.out.keep HNW.out)
  have HXI:=jq (blk HXI.out HNW.out)
  have HBT:=jq (HBT.out.trans (But.of_below HNW.out))
  have HC:=jq (HC.out.keep HNW.out)
  clear HNW
  refine(push_wk (y:=1) HC.out (by have:=HZ.out;omega) HL2.out (by simp) (by omega)).mono ?_
  rintro e w3 ⟨rfl,hc,hbt⟩
  have HXE:=jq (hbt.bk HXE.out HYK.out)
  have HE:=jq (HE.out.but hbt HC.out.lt)
  have HXI:=jq (hbt.bk HXI.out HYI.out)
  have HBT:=jq (HBT.out.trans hbt)
  have HC:=jq hc
  clear hc hbt
  go_wp2_with fail
  exact bodyPost_end (v:=.tuple #[]) (by simp[results,Tryz.results37,go_sem]) rfl ⟨rfl,by rw[<- HD.out];exact HC.out.mono (by omega),HBT.out⟩
 ·have HP:=jq h2
  have HD:Hid (_=Y):=jq (atL_in h2 ▸ HD.out)
  rw[HLN.out] at h1
  have t1:decide ((j:Int)<(V.nl:Int))=true:=decide_eq_true (by omega)
  have t1':decide (j<V.nl)=true:=decide_eq_true h1
  have i1:(0:Int)<=(j:Int):=by omega
  have i2:(j:Int)<(V.nl:Int):=by omega
  clear h1 h2
  simp only[t1]
  refine(must_wk (b:=true) HC.out (.inr rfl)).mono ?_
  rintro e w1 ⟨rfl,hc,hbt⟩
  have HXE:=jq (hbt.bk HXE.out HYK.out)
  have HE:=jq (HE.out.but hbt HC.out.lt)
  have HXI:=jq (hbt.bk HXI.out HYI.out)
  have HBT:=jq (HBT.out.trans hbt)
  have HC:=jq hc
  clear hc hbt
  obtain⟨a0,a1,a2,a3,a4,a5,a6⟩:=zaK HXE.out
  have al:=jl HXE.out
  obtain⟨b0,b1,b4⟩:=cells5 HXI.out
  have bl:=jl HXI.out
  obtain⟨gg,off,r,hPl,hr,g0,hrg⟩:=row_byte HE.out.env.l HP.out
  rw[hPl] at a5
  have HRG:=jq hrg
  clear hPl hrg
  go_wp2_with fail
  clear g0 a0 a1 a2 a3 a4 a5 a6 al b0 b1 b4 bl
  have HNW:=jq (zaB w1 (.cells #[.int .u8 p] 5))
  have HL1:=jq (zaL w1 p HRG.out)
  have HXE:=jq (blk HXE.out HNW.out)
  have HE:=jq (HE.out.keep HNW.out)
  have HXI:=jq (blk HXI.out HNW.out)
  have HBT:=jq (HBT.out.trans (But.of_below HNW.out))
  have HC:=jq (HC.out.keep HNW.out)
  clear HNW
  refine(want_wk HC.out (by have:=HZ.out;omega) HL1.out (by simp)).mono ?_
  rintro e w2 ⟨rfl,hc,hbt⟩
  have HXE:=jq (hbt.bk HXE.out HYK.out)
  have HE:=jq (HE.out.but hbt HC.out.lt)
  have HXI:=jq (hbt.bk HXI.out HYI.out)
  have HBT:=jq (HBT.out.trans hbt)
  have HC:=jq hc
  clear hc hbt
  obtain⟨a0,a1,a2,a3,a4,a5,a6⟩:=zaK HXE.out
  have al:=jl HXE.out
  obtain⟨b0,b1,b4⟩:=cells5 HXI.out
  have bl:=jl HXI.out
  go_wp2_with fail
  clear a0 a1 a2 a3 a4 a5 a6 al b0 b1 b4 bl
  have HNW:=jq (zaB w2 (.cells #[.int .u8 p] 5))
  have HL2:=jq (zaL w2 p HRG.out)
  have HXE:=jq (blk HXE.out HNW.out)
  have HE:=jq (HE.out.keep HNW.out)
  have HXI:=jq (blk HXI.out HNW.out)
  have HBT:=jq (HBT.out.trans (But.of_below HNW.out))
  have HC:=jq (HC.out.keep HNW.out)
  clear HNW
  refine(push_wk (y:=1) HC.out (by have:=HZ.out;omega) HL2.out (by simp) (by omega)).mono ?_
  rintro e w3 ⟨rfl,hc,hbt⟩
  have HXE:=jq (hbt.bk HXE.out HYK.out)
  have HE:=jq (HE.out.but hbt HC.out.lt)
  have HXI:=jq (hbt.bk HXI.out HYI.out)
  have HBT:=jq (HBT.out.trans hbt)
  have HC:=jq hc
  clear hc hbt
  go_wp2_with fail
  exact bodyPost_end (v:=.tuple #[]) (by simp[results,Tryz.results37,go_sem]) rfl ⟨rfl,by rw[<- HD.out];exact HC.out.mono (by omega),HBT.out⟩
theorem variable_35 {w:World}{k:Nat}{x:Rs}{z:Nat}{V:EV}{E:EnvP}{A B K:Int}{lab:Value}(h:Cw w k x z)(hz:z<=300000)(hE:EvAt w k V E)(hA:0<=A):Calls Tryz.prog 37 #[.pointer (some ⟨k,0,none⟩),(.agg #[.slice V.Pt V.nt V.ct,.slice V.Pf V.nf V.cf,.int .i64 E.tables,.int .i64 E.mems,.slice V.Pg V.ng V.cg,.slice V.Pl V.nl V.cl,.slice V.Pr V.nr V.cr]),.agg #[.int .i64 35,.int .i64 A,.int .i64 B,.int .u64 K,lab]] w (CwEnds w k (pushR [((atL E.globs A).getD (0,false)).1] (needR (atL E.globs A).isSome 6 x)) (z+1) (.tuple #[])):=by
 obtain⟨Y,hY⟩:∃Y,(pushR [((atL E.globs A).getD (0,false)).1] (needR (atL E.globs A).isSome 6 x))=Y:=⟨_,rfl⟩
 rw[hY]
 have HD:=jq hY
 clear hY
 have HA:=jq hA
 have HBX:=jq (below2 w (oE V E) (oI 35 A B K lab))
 have HXE:=jq (blk (zaC w (oE V E)) (zaB (w.alloc (oE V E)) (oI 35 A B K lab)))
 have HXI:=jq (zaC (w.alloc (oE V E)) (oI 35 A B K lab))
 rw[zaD] at HXI
 have HE:=jq (hE.keep HBX.out)
 have HYK:Hid (w.heap.size≠k):=jq (by have:=h.lt;omega)
 have HYI:Hid (w.heap.size+1≠k):=jq (by have:=h.lt;omega)
 have HC:=jq (h.keep HBX.out)
 have HBT:Hid (But k w ((w.alloc (oE V E)).alloc (oI 35 A B K lab))):=But.of_below HBX.out
 have HZ:=jq hz
 clear h hz hE hA
 obtain⟨a0,a1,a2,a3,a4,a5,a6⟩:=zaK HXE.out
 have al:=jl HXE.out
 obtain⟨b0,b1,b4⟩:=cells5 HXI.out
 have bl:=jl HXI.out
 go_enter Tryz.func37,Tryz.ntmps37
 go_wp2_with fail
 clear a0 a1 a2 a3 a4 a5 a6 al b0 b1 b4 bl
 generalize (w.alloc (oE V E)).alloc (oI 35 A B K lab)=u0 at *
 obtain⟨y,hy⟩:∃y,w.heap.size=y:=⟨_,rfl⟩
 rw[hy] at HXE HXI HYK HYI
 simp only[hy]
 obtain⟨q,hq⟩:∃q,y+1=q:=⟨_,rfl⟩
 rw[hq] at HXI HYI
 simp only[hq]
 clear hy hq HBX
 have HLN:=jq (row_len HE.out.env.g)
 rcases at_cases E.globs A with h1 | ⟨h1,h2⟩ | ⟨j,p,rfl,h1,h2⟩
 ·exact absurd HA.out (by omega)
 ·have HD:Hid (_=Y):=jq (atL_out h2 ▸ HD.out)
  rw[HLN.out] at h2
  have t1:decide (A<(V.ng:Int))=false:=decide_eq_false (by omega)
  clear h1 h2
  simp only[t1]
  refine(must_wk (b:=false) HC.out (.inl (by decide))).mono ?_
  rintro e w1 ⟨rfl,hc,hbt⟩
  have HXE:=jq (hbt.bk HXE.out HYK.out)
  have HE:=jq (HE.out.but hbt HC.out.lt)
  have HXI:=jq (hbt.bk HXI.out HYI.out)
  have HBT:=jq (HBT.out.trans hbt)
  have HC:=jq hc
  clear hc hbt
  obtain⟨a0,a1,a2,a3,a4,a5,a6⟩:=zaK HXE.out
  have al:=jl HXE.out
  obtain⟨b0,b1,b4⟩:=cells5 HXI.out
  have bl:=jl HXI.out
  go_wp2_with fail
  clear a0 a1 a2 a3 a4 a5 a6 al b0 b1 b4 bl
  have HNW:=jq (zaB w1 (.cells #[.int .u8 0] 5))
  have HL2:=jq (zaL w1 0 ⟨by omega,by omega⟩)
  have HXE:=jq (blk HXE.out HNW.out)
  have HE:=jq (HE.out.keep HNW.out)
  have HXI:=jq (blk HXI.out HNW.out)
  have HBT:=jq (HBT.out.trans (But.of_below HNW.out))
  have HC:=jq (HC.out.keep HNW.out)
  clear HNW
  refine(push_wk (y:=1) HC.out (by have:=HZ.out;omega) HL2.out (by simp) (by omega)).mono ?_
  rintro e w2 ⟨rfl,hc,hbt⟩
  have HXE:=jq (hbt.bk HXE.out HYK.out)
  have HE:=jq (HE.out.but hbt HC.out.lt)
  have HXI:=jq (hbt.bk HXI.out HYI.out)
  have HBT:=jq (HBT.out.trans hbt)
  have HC:=jq hc
  clear hc hbt
  go_wp2_with fail
  exact bodyPost_end (v:=.tuple #[]) (by simp[results,Tryz.results37,go_sem]) rfl ⟨rfl,by rw[<- HD.out];exact HC.out.mono (by omega),HBT.out⟩
 ·have HP:=jq h2
  have HD:Hid (_=Y):=jq (atL_in h2 ▸ HD.out)
  rw[HLN.out] at h1
  have t1:decide ((j:Int)<(V.ng:Int))=true:=decide_eq_true (by omega)
  have t1':decide (j<V.ng)=true:=decide_eq_true h1
  have i1:(0:Int)<=(j:Int):=by omega
  have i2:(j:Int)<(V.ng:Int):=by omega
  clear h1 h2
  simp only[t1]
  refine(must_wk (b:=true) HC.out (.inr rfl)).mono ?_
  rintro e w1 ⟨rfl,hc,hbt⟩
  have HXE:=jq (hbt.bk HXE.out HYK.out)
  have HE:=jq (HE.out.but hbt HC.out.lt)
  have HXI:=jq (hbt.bk HXI.out HYI.out)
  have HBT:=jq (HBT.out.trans hbt)
  have HC:=jq hc
  clear hc hbt
  obtain⟨a0,a1,a2,a3,a4,a5,a6⟩:=zaK HXE.out
  have al:=jl HXE.out
  obtain⟨b0,b1,b4⟩:=cells5 HXI.out
  have bl:=jl HXI.out
  obtain⟨gg,off,r,hPg,hr,g0,g1,hrg⟩:=row_glob HE.out.env.g HP.out
  rw[hPg] at a4
  have HRG:=jq hrg
  obtain⟨pv,pm⟩:=p
  simp only at g0 g1 hrg
  clear hPg hrg
  go_wp2_with fail
  clear g0 g1 a0 a1 a2 a3 a4 a5 a6 al b0 b1 b4 bl
  refine(must_wk (b:=true) HC.out (.inr rfl)).mono ?_
  rintro e w2 ⟨rfl,hc,hbt⟩
  have HXE:=jq (hbt.bk HXE.out HYK.out)
  have HE:=jq (HE.out.but hbt HC.out.lt)
  have HXI:=jq (hbt.bk HXI.out HYI.out)
  have HBT:=jq (HBT.out.trans hbt)
  have HC:=jq hc
  clear hc hbt
  obtain⟨a0,a1,a2,a3,a4,a5,a6⟩:=zaK HXE.out
  have al:=jl HXE.out
  obtain⟨b0,b1,b4⟩:=cells5 HXI.out
  have bl:=jl HXI.out
  go_wp2_with fail
  clear a0 a1 a2 a3 a4 a5 a6 al b0 b1 b4 bl
  have HNW:=jq (zaB w2 (.cells #[.int .u8 pv] 5))
  have HL2:=jq (zaL w2 pv HRG.out)
  have HXE:=jq (blk HXE.out HNW.out)
  have HE:=jq (HE.out.keep HNW.out)
  have HXI:=jq (blk HXI.out HNW.out)
  have HBT:=jq (HBT.out.trans (But.of_below HNW.out))
  have HC:=jq (HC.out.keep HNW.out)
  clear HNW
  refine(push_wk (y:=1) HC.out (by have:=HZ.out;omega) HL2.out (by simp) (by omega)).mono ?_
  rintro e w3 ⟨rfl,hc,hbt⟩
  have HXE:=jq (hbt.bk HXE.out HYK.out)
  have HE:=jq (HE.out.but hbt HC.out.lt)
  have HXI:=jq (hbt.bk HXI.out HYI.out)
  have HBT:=jq (HBT.out.trans hbt)
  have HC:=jq hc
  clear hc hbt
  go_wp2_with fail
  exact bodyPost_end (v:=.tuple #[]) (by simp[results,Tryz.results37,go_sem]) rfl ⟨rfl,by rw[<- HD.out];exact(needR_true 5 (needR true 6 x) ▸ HC.out),HBT.out⟩
theorem variable_36 {w:World}{k:Nat}{x:Rs}{z:Nat}{V:EV}{E:EnvP}{A B K:Int}{lab:Value}(h:Cw w k x z)(hz:z<=300000)(hE:EvAt w k V E)(hA:0<=A):Calls Tryz.prog 37 #[.pointer (some ⟨k,0,none⟩),(.agg #[.slice V.Pt V.nt V.ct,.slice V.Pf V.nf V.cf,.int .i64 E.tables,.int .i64 E.mems,.slice V.Pg V.ng V.cg,.slice V.Pl V.nl V.cl,.slice V.Pr V.nr V.cr]),.agg #[.int .i64 36,.int .i64 A,.int .i64 B,.int .u64 K,lab]] w (CwEnds w k (wantR [((atL E.globs A).getD (0,false)).1] (needR ((atL E.globs A).getD (0,false)).2 5 (needR (atL E.globs A).isSome 6 x))) (z+1) (.tuple #[])):=by
 obtain⟨Y,hY⟩:∃Y,(wantR [((atL E.globs A).getD (0,false)).1] (needR ((atL E.globs A).getD (0,false)).2 5 (needR (atL E.globs A).isSome 6 x)))=Y:=⟨_,rfl⟩
 rw[hY]
 have HD:=jq hY
 clear hY
 have HA:=jq hA
 have HBX:=jq (below2 w (oE V E) (oI 36 A B K lab))
 have HXE:=jq (blk (zaC w (oE V E)) (zaB (w.alloc (oE V E)) (oI 36 A B K lab)))
 have HXI:=jq (zaC (w.alloc (oE V E)) (oI 36 A B K lab))
 rw[zaD] at HXI
 have HE:=jq (hE.keep HBX.out)
 have HYK:Hid (w.heap.size≠k):=jq (by have:=h.lt;omega)
 have HYI:Hid (w.heap.size+1≠k):=jq (by have:=h.lt;omega)
 have HC:=jq (h.keep HBX.out)
 have HBT:Hid (But k w ((w.alloc (oE V E)).alloc (oI 36 A B K lab))):=But.of_below HBX.out
 have HZ:=jq hz
 clear h hz hE hA
 obtain⟨a0,a1,a2,a3,a4,a5,a6⟩:=zaK HXE.out
 have al:=jl HXE.out
 obtain⟨b0,b1,b4⟩:=cells5 HXI.out
 have bl:=jl HXI.out
 go_enter Tryz.func37,Tryz.ntmps37
 go_wp2_with fail
 clear a0 a1 a2 a3 a4 a5 a6 al b0 b1 b4 bl
 generalize (w.alloc (oE V E)).alloc (oI 36 A B K lab)=u0 at *
 obtain⟨y,hy⟩:∃y,w.heap.size=y:=⟨_,rfl⟩
 rw[hy] at HXE HXI HYK HYI
 simp only[hy]
 obtain⟨q,hq⟩:∃q,y+1=q:=⟨_,rfl⟩
 rw[hq] at HXI HYI
 simp only[hq]
 clear hy hq HBX
 have HLN:=jq (row_len HE.out.env.g)
 rcases at_cases E.globs A with h1 | ⟨h1,h2⟩ | ⟨j,p,rfl,h1,h2⟩
 ·exact absurd HA.out (by omega)
 ·have HD:Hid (_=Y):=jq (atL_out h2 ▸ HD.out)
  rw[HLN.out] at h2
  have t1:decide (A<(V.ng:Int))=false:=decide_eq_false (by omega)
  clear h1 h2
  simp only[t1]
  refine(must_wk (b:=false) HC.out (.inl (by decide))).mono ?_
  rintro e w1 ⟨rfl,hc,hbt⟩
  have HXE:=jq (hbt.bk HXE.out HYK.out)
  have HE:=jq (HE.out.but hbt HC.out.lt)
  have HXI:=jq (hbt.bk HXI.out HYI.out)
  have HBT:=jq (HBT.out.trans hbt)
  have HC:=jq hc
  clear hc hbt
  obtain⟨a0,a1,a2,a3,a4,a5,a6⟩:=zaK HXE.out
  have al:=jl HXE.out
  obtain⟨b0,b1,b4⟩:=cells5 HXI.out
  have bl:=jl HXI.out
  go_wp2_with fail
  clear a0 a1 a2 a3 a4 a5 a6 al b0 b1 b4 bl
  have HNW:=jq (zaB w1 (.cells #[.int .u8 0] 5))
  have HL1:=jq (zaL w1 0 ⟨by omega,by omega⟩)
  have HXE:=jq (blk HXE.out HNW.out)
  have HE:=jq (HE.out.keep HNW.out)
  have HXI:=jq (blk HXI.out HNW.out)
  have HBT:=jq (HBT.out.trans (But.of_below HNW.out))
  have HC:=jq (HC.out.keep HNW.out)
  clear HNW
  refine(want_wk HC.out (by have:=HZ.out;omega) HL1.out (by simp)).mono ?_
  rintro e w2 ⟨rfl,hc,hbt⟩
  have HXE:=jq (hbt.bk HXE.out HYK.out)
  have HE:=jq (HE.out.but hbt HC.out.lt)
  have HXI:=jq (hbt.bk HXI.out HYI.out)
  have HBT:=jq (HBT.out.trans hbt)
  have HC:=jq hc
  clear hc hbt
  obtain⟨a0,a1,a2,a3,a4,a5,a6⟩:=zaK HXE.out
  have al:=jl HXE.out
  obtain⟨b0,b1,b4⟩:=cells5 HXI.out
  have bl:=jl HXI.out
  go_wp2_with fail
  clear a0 a1 a2 a3 a4 a5 a6 al b0 b1 b4 bl
  exact bodyPost_end (v:=.tuple #[]) (by simp[results,Tryz.results37,go_sem]) rfl ⟨rfl,by rw[<- HD.out];exact(need_out36 x ▸ HC.out.mono (by omega):Cw _ k (wantR [0] (needR false 5 (needR false 6 x))) (z+1)),HBT.out⟩
 ·have HP:=jq h2
  have HD:Hid (_=Y):=jq (atL_in h2 ▸ HD.out)
  rw[HLN.out] at h1
  have t1:decide ((j:Int)<(V.ng:Int))=true:=decide_eq_true (by omega)
  have t1':decide (j<V.ng)=true:=decide_eq_true h1
  have i1:(0:Int)<=(j:Int):=by omega
  have i2:(j:Int)<(V.ng:Int):=by omega
  clear h1 h2
  simp only[t1]
  refine(must_wk (b:=true) HC.out (.inr rfl)).mono ?_
  rintro e w1 ⟨rfl,hc,hbt⟩
  have HXE:=jq (hbt.bk HXE.out HYK.out)
  have HE:=jq (HE.out.but hbt HC.out.lt)
  have HXI:=jq (hbt.bk HXI.out HYI.out)
  have HBT:=jq (HBT.out.trans hbt)
  have HC:=jq hc
  clear hc hbt
  obtain⟨a0,a1,a2,a3,a4,a5,a6⟩:=zaK HXE.out
  have al:=jl HXE.out
  obtain⟨b0,b1,b4⟩:=cells5 HXI.out
  have bl:=jl HXI.out
  obtain⟨gg,off,r,hPg,hr,g0,g1,hrg⟩:=row_glob HE.out.env.g HP.out
  rw[hPg] at a4
  have HRG:=jq hrg
  obtain⟨pv,pm⟩:=p
  simp only at g0 g1 hrg
  clear hPg hrg
  go_wp2_with fail
  clear g0 g1 a0 a1 a2 a3 a4 a5 a6 al b0 b1 b4 bl
  refine(must_wk (b:=pm) HC.out (.inl (by decide))).mono ?_
  rintro e w2 ⟨rfl,hc,hbt⟩
  have HXE:=jq (hbt.bk HXE.out HYK.out)
  have HE:=jq (HE.out.but hbt HC.out.lt)
  have HXI:=jq (hbt.bk HXI.out HYI.out)
  have HBT:=jq (HBT.out.trans hbt)
  have HC:=jq hc
  clear hc hbt
  obtain⟨a0,a1,a2,a3,a4,a5,a6⟩:=zaK HXE.out
  have al:=jl HXE.out
  obtain⟨b0,b1,b4⟩:=cells5 HXI.out
  have bl:=jl HXI.out
  go_wp2_with fail
  clear a0 a1 a2 a3 a4 a5 a6 al b0 b1 b4 bl
  have HNW:=jq (zaB w2 (.cells #[.int .u8 pv] 5))
  have HL1:=jq (zaL w2 pv HRG.out)
  have HXE:=jq (blk HXE.out HNW.out)
  have HE:=jq (HE.out.keep HNW.out)
  have HXI:=jq (blk HXI.out HNW.out)
  have HBT:=jq (HBT.out.trans (But.of_below HNW.out))
  have HC:=jq (HC.out.keep HNW.out)
  clear HNW
  refine(want_wk HC.out (by have:=HZ.out;omega) HL1.out (by simp)).mono ?_
  rintro e w3 ⟨rfl,hc,hbt⟩
  have HXE:=jq (hbt.bk HXE.out HYK.out)
  have HE:=jq (HE.out.but hbt HC.out.lt)
  have HXI:=jq (hbt.bk HXI.out HYI.out)
  have HBT:=jq (HBT.out.trans hbt)
  have HC:=jq hc
  clear hc hbt
  obtain⟨a0,a1,a2,a3,a4,a5,a6⟩:=zaK HXE.out
  have al:=jl HXE.out
  obtain⟨b0,b1,b4⟩:=cells5 HXI.out
  have bl:=jl HXI.out
  go_wp2_with fail
  clear a0 a1 a2 a3 a4 a5 a6 al b0 b1 b4 bl
  exact bodyPost_end (v:=.tuple #[]) (by simp[results,Tryz.results37,go_sem]) rfl ⟨rfl,by rw[<- HD.out];exact HC.out.mono (by omega),HBT.out⟩
theorem row_int {w:World}{P:Option Addr}{n c:Nat}{l:List Int}(h:Row elI w (.slice P n c) l){k:Nat}{p:Int}(hk:l[k]? = some p):∃g off q,P=some ⟨g,off,none⟩/\off+k=q/\w.cell? ⟨g,q,none⟩=some (.int .i64 p)/\w64 p:=by
 obtain⟨g,off,e,hg,hA,hok⟩:=h.at_ hk
 have c0:=hA 0 _ rfl
 exact⟨g,off,off+k,e,rfl,by simpa [elI] using c0,hok⟩
theorem row_fn {w:World}{P:Option Addr}{n c:Nat}{l:List FnV}(h:Row elF w (.slice P n c) l){k:Nat}{p:FnV}(hk:l[k]? = some p):∃g off q P1 n1 c1 Q1 m1 d1,P=some ⟨g,off,none⟩/\g<w.heap.size/\off+k*2=q/\w.cell? ⟨g,q,none⟩=some (.slice P1 n1 c1)/\w.cell? ⟨g,q+1,none⟩=some (.slice Q1 m1 d1)/\Row elB w (.slice P1 n1 c1) p.1.1/\Row elB w (.slice Q1 m1 d1) p.1.2:=by
 obtain⟨g,off,e,hg,hA,hok⟩:=h.at_ hk
 have c0:=hA 0 _ rfl
 have c1:=hA 1 _ rfl
 have hok:FnOk w p:=hok
 obtain⟨P1,n1,c1',Q1,m1,d1,e1,e2⟩:=fn_form hok
 rw[e1] at c0
 rw[e2] at c1
 exact⟨g,off,off+k*2,P1,n1,c1',Q1,m1,d1,e,hg,rfl,by simpa [elF] using c0,by simpa [elF] using c1,e1 ▸ hok.1,e2 ▸ hok.2⟩
theorem rtype_any {w:World}{V:EV}{E:EnvP}{f:Int}(h:EnvOk elGD w V E):Calls Tryz.prog 17 #[(.agg #[.slice V.Pt V.nt V.ct,.slice V.Pf V.nf V.cf,.int .i64 E.tables,.int .i64 E.mems,.slice V.Pg V.ng V.cg,.slice V.Pl V.nl V.cl,.slice V.Pr V.nr V.cr]),.int .i64 f] w (FnTold w ((typeE E f).getD ([],[])) (typeE E f).isSome):=by
 obtain⟨F,hF⟩:∃F,typeE E f=F:=⟨_,rfl⟩
 rw[hF]
 have HD:Hid ((atL E.funcs f).bind (fun n=>atL E.types n)=F):=hF
 clear hF
 have HBX:=jq (below2 w (oE V E) (.cells #[.slice none 0 0,.slice none 0 0] 51))
 have HX:=jq (blk (zaC w (oE V E)) (zaB (w.alloc (oE V E)) (.cells #[.slice none 0 0,.slice none 0 0] 51)))
 have HR:=jq (zaC (w.alloc (oE V E)) (.cells #[.slice none 0 0,.slice none 0 0] 51))
 rw[zaD] at HR
 have HE:=jq (h.keep HBX.out)
 have HLF:=jq (row_len HE.out.f)
 obtain⟨ts,hts,hmt⟩:=HE.out.t
 have HTS:=jq hts
 have HMT:=jq hmt
 have HLT:Hid (E.types.length=V.nt):=jq (by rw[<- hmt,List.length_map];exact row_len hts)
 clear h hts hmt
 obtain⟨a0,a1,a2,a3,a4,a5,a6⟩:=zaK HX.out
 have al:=jl HX.out
 obtain⟨r0,r1⟩:=zaH HR.out
 have p0:=(zaA HR.out 0).2
 have p1:=(zaA HR.out 1).2
 have rl:=jl HR.out
 go_enter Tryz.func17,Tryz.ntmps17
 go_wp2_with fail
 have HU:Hid ((w.alloc (oE V E)).alloc (.cells #[.slice none 0 0,.slice none 0 0] 51)=(w.alloc (oE V E)).alloc (.cells #[.slice none 0 0,.slice none 0 0] 51)):=rfl
 generalize (w.alloc (oE V E)).alloc (.cells #[.slice none 0 0,.slice none 0 0] 51)=u at *
 clear HU
 obtain⟨y,hy⟩:∃y,w.heap.size=y:=⟨_,rfl⟩
 have HBY:=jq hy
 have hx7:=HX.out
 have hr7:=HR.out
 rw[hy] at hx7 hr7 a0 a1 a2 a3 a4 a5 a6 al r0 r1 p0 p1 rl
 clear HX HR
 have HX:=jq hx7
 have HR:=jq hr7
 simp only[hy]
 clear hy hx7 hr7
 obtain⟨r,hr⟩:∃r,y+1=r:=⟨_,rfl⟩
 have HBR:=jq hr
 have hr7:=HR.out
 rw[hr] at hr7 r0 r1 p0 p1 rl
 clear HR
 have HR:=jq hr7
 simp only[hr]
 clear hr hr7
 rcases at_cases E.funcs f with h1 | ⟨h1,h2⟩ | ⟨k,n,rfl,h1,h2⟩
 ·have HF:Hid (F=none):=jq (by rw[<- HD.out,atL_neg h1];rfl)
  have t1:decide (f<0)=true:=decide_eq_true h1
  clear h1
  go_quiet (fail)
  go_wp2_with fail
  have HB:=jq ((HBX.out.trans (drewB u nq HBX.out.size)).setCell (p:=⟨r,0,none⟩) (by have:=HBY.out;have:=HBR.out;show w.heap.size<=r;omega) (.slice none 0 0) |>.setCell (p:=⟨r,1,none⟩) (by have:=HBY.out;have:=HBR.out;show w.heap.size<=r;omega) (.slice none 0 0))
  obtain⟨f0,f1⟩:=zaH (store2 (blk HR.out (drewB u nq (Nat.le_refl _))) (.slice none 0 0) (.slice none 0 0))
  rw[HF.out]
  exact bodyPost_ret (v:=.tuple #[.agg #[.slice none 0 0,.slice none 0 0],.bool false]) (by simp[results,Tryz.results17,go_sem,f0,f1]) rfl ⟨⟨_,_,_,_,_,_,rfl,Row.nil _ _,Row.nil _ _⟩,HB.out⟩
 ·have HF:Hid (F=none):=jq (by rw[<- HD.out,atL_out h2];rfl)
  rw[HLF.out] at h2
  have t1:decide (f<0)=false:=decide_eq_false h1
  have t2:decide ((V.nf:Int)<=f)=true:=decide_eq_true h2
  clear h1 h2
  go_quiet (fail)
  go_wp2_with fail
  have HB:=jq ((HBX.out.trans (drewB u nq HBX.out.size)).setCell (p:=⟨r,0,none⟩) (by have:=HBY.out;have:=HBR.out;show w.heap.size<=r;omega) (.slice none 0 0) |>.setCell (p:=⟨r,1,none⟩) (by have:=HBY.out;have:=HBR.out;show w.heap.size<=r;omega) (.slice none 0 0))
  obtain⟨f0,f1⟩:=zaH (store2 (blk HR.out (drewB u nq (Nat.le_refl _))) (.slice none 0 0) (.slice none 0 0))
  rw[HF.out]
  exact bodyPost_ret (v:=.tuple #[.agg #[.slice none 0 0,.slice none 0 0],.bool false]) (by simp[results,Tryz.results17,go_sem,f0,f1]) rfl ⟨⟨_,_,_,_,_,_,rfl,Row.nil _ _,Row.nil _ _⟩,HB.out⟩
 ·obtain ⟨g,off,q,hPf,hq,g0,hn⟩:=row_int HE.out.f h2
  have HD:Hid (atL E.types n=F):=jq (by rw[<- HD.out,atL_in h2];rfl)
  rw[HLF.out] at h1
  have t1:decide ((k:Int)<0)=false:=decide_eq_false (by omega)
  have t2:decide ((V.nf:Int)<=(k:Int))=false:=decide_eq_false (by omega)
  have t2':decide (V.nf<=k)=false:=decide_eq_false (by omega)
  have i1:(0:Int)<=(k:Int):=by omega
  have i2:(k:Int)<(V.nf:Int):=by omega
  rw[hPf] at a1
  have HPf:=jq hPf
  clear h1 h2 hPf
  rcases at_cases E.types n with h1 | ⟨h1,h2⟩ | ⟨j,p,rfl,h1,h2⟩
  ·have HF:Hid (F=none):=jq (by rw[<- HD.out,atL_neg h1])
   have t3:decide (n<0)=true:=decide_eq_true h1
   clear h1 hn
   go_quiet (fail)
   go_wp2_with fail
   have HB:=jq ((HBX.out.trans (drewB u nq HBX.out.size)).setCell (p:=⟨r,0,none⟩) (by have:=HBY.out;have:=HBR.out;show w.heap.size<=r;omega) (.slice none 0 0) |>.setCell (p:=⟨r,1,none⟩) (by have:=HBY.out;have:=HBR.out;show w.heap.size<=r;omega) (.slice none 0 0))
   obtain⟨f0,f1⟩:=zaH (store2 (blk HR.out (drewB u nq (Nat.le_refl _))) (.slice none 0 0) (.slice none 0 0))
   rw[HF.out]
   exact bodyPost_ret (v:=.tuple #[.agg #[.slice none 0 0,.slice none 0 0],.bool false]) (by simp[results,Tryz.results17,go_sem,f0,f1]) rfl ⟨⟨_,_,_,_,_,_,rfl,Row.nil _ _,Row.nil _ _⟩,HB.out⟩
  ·have HF:Hid (F=none):=jq (by rw[<- HD.out,atL_out h2])
   rw[HLT.out] at h2
   have t3:decide (n<0)=false:=decide_eq_false h1
   have t4:decide ((V.nt:Int)<=n)=true:=decide_eq_true h2
   clear h1 h2 hn
   go_quiet (fail)
   go_wp2_with fail
   have HB:=jq ((HBX.out.trans (drewB u nq HBX.out.size)).setCell (p:=⟨r,0,none⟩) (by have:=HBY.out;have:=HBR.out;show w.heap.size<=r;omega) (.slice none 0 0) |>.setCell (p:=⟨r,1,none⟩) (by have:=HBY.out;have:=HBR.out;show w.heap.size<=r;omega) (.slice none 0 0))
   obtain⟨f0,f1⟩:=zaH (store2 (blk HR.out (drewB u nq (Nat.le_refl _))) (.slice none 0 0) (.slice none 0 0))
   rw[HF.out]
   exact bodyPost_ret (v:=.tuple #[.agg #[.slice none 0 0,.slice none 0 0],.bool false]) (by simp[results,Tryz.results17,go_sem,f0,f1]) rfl ⟨⟨_,_,_,_,_,_,rfl,Row.nil _ _,Row.nil _ _⟩,HB.out⟩
  ·have HF:Hid (F=some p):=jq (by rw[<- HD.out,atL_in h2])
   obtain⟨pv,hpv,hpe⟩:∃pv,ts[j]? = some pv/\pv.1=p:=by
    rw[<- HMT.out,List.getElem?_map] at h2
    cases hh:ts[j]? with
    | none=>rw[hh] at h2;cases h2
    | some x=>rw[hh] at h2;injection h2 with h2;exact⟨x,rfl,h2⟩
   obtain⟨g2,off2,q2,P1,n1,c1,Q1,m1,d1,hPt,hgl,hq2,e0,e1,hr1,hr2⟩:=row_fn HTS.out hpv
   rw[hpe] at hr1 hr2
   have HR1:=jq hr1
   have HR2:=jq hr2
   rw[HLT.out] at h1
   have t3:decide ((j:Int)<0)=false:=decide_eq_false (by omega)
   have t4:decide ((V.nt:Int)<=(j:Int))=false:=decide_eq_false (by omega)
   have t4':decide (V.nt<=j)=false:=decide_eq_false (by omega)
   have i3:(0:Int)<=(j:Int):=by omega
   have i4:(j:Int)<(V.nt:Int):=by omega
   rw[hPt] at a0
   have HPt:=jq hPt
   clear hgl h1 h2 hPt hr1 hr2 hpv hpe hn
   go_quiet (fail)
   have HB1:=jq (drewB u nq (Nat.le_refl u.heap.size))
   have HB2:=jq (HBX.out.trans (drewB u nq HBX.out.size))
   have HXn:=jq (blk HX.out HB1.out)
   have HRn:=jq (blk HR.out HB1.out)
   have g0n:(u.drewN nq).cell? ⟨g,q,none⟩=some (.int .i64 (j:Int)):=g0
   have e0n:(u.drewN nq).cell? ⟨g2,q2,none⟩=some (.slice P1 n1 c1):=e0
   have e1n:(u.drewN nq).cell? ⟨g2,q2+1,none⟩=some (.slice Q1 m1 d1):=e1
   have HR1:=jq (HR1.out.keep HB1.out)
   have HR2:=jq (HR2.out.keep HB1.out)
   have HU:Hid (u.heap.size<=(u.drewN nq).heap.size):=Nat.le_refl _
   clear a0 a1 a2 a3 a4 a5 a6 al r0 r1 p0 p1 rl g0 e0 e1 t1 t2 t2' t3 t4 t4'
   generalize u.drewN nq=v at *
   obtain⟨a0,a1,a2,a3,a4,a5,a6⟩:=zaK HXn.out
   have al:=jl HXn.out
   obtain⟨r0,r1⟩:=zaH HRn.out
   have p0:=(zaA HRn.out 0).2
   have p1:=(zaA HRn.out 1).2
   have rl:=jl HRn.out
   rw[HPf.out] at a1
   rw[HPt.out] at a0
   go_wp2_with fail
   go_region
   have HB:=jq ((HB2.out.setCell (p:=⟨r,0,none⟩) (by have:=HBY.out;have:=HBR.out;show w.heap.size<=r;omega) (.slice P1 n1 c1) |>.setCell (p:=⟨r,1,none⟩) (by have:=HBY.out;have:=HBR.out;show w.heap.size<=r;omega) (.slice Q1 m1 d1)).drew)
   have HNR:NoBB v r:=nobb_of HRn.out (by intro u hu;simp only[List.mem_cons,List.not_mem_nil,or_false] at hu;rcases hu with rfl | rfl <;> exact ⟨fun x=>by simp,fun b=>by simp⟩)
   have HBS:But r v (((v.setCell ⟨r,0,none⟩ (.slice P1 n1 c1)).setCell ⟨r,1,none⟩ (.slice Q1 m1 d1)).drew):=(((But.refl r v).setCell 0 _).setCell 1 _).trans (But.of_below (zaI _))
   have HR1:=jq (zaG HR1.out HNR HBS)
   have HR2:=jq (zaG HR2.out HNR HBS)
   obtain⟨f0,f1⟩:=zaH (store2 HRn.out (.slice P1 n1 c1) (.slice Q1 m1 d1))
   have f0:(((v.setCell ⟨r,0,none⟩ (.slice P1 n1 c1)).setCell ⟨r,1,none⟩ (.slice Q1 m1 d1)).drew).cell? ⟨r,0,none⟩=some (.slice P1 n1 c1):=f0
   have f1:(((v.setCell ⟨r,0,none⟩ (.slice P1 n1 c1)).setCell ⟨r,1,none⟩ (.slice Q1 m1 d1)).drew).cell? ⟨r,1,none⟩=some (.slice Q1 m1 d1):=f1
   clear HNR HBS
   go_wp2_with fail
   rw[HF.out]
   exact bodyPost_ret (v:=.tuple #[.agg #[.slice P1 n1 c1,.slice Q1 m1 d1],.bool true]) (by simp[results,Tryz.results17,go_sem,f0,f1]) rfl ⟨⟨_,_,_,_,_,_,rfl,HR1.out,HR2.out⟩,HB.out⟩
end Go.Proofs.YtlappkflnlbfcaaGreatDoor.Chk
