import Derived.Test.YtlappkflnlbfcaaGreatDoorPkChkPath
namespace Go.Proofs.YtlappkflnlbfcaaGreatDoor.Chk
open Go renaming bodyPost_ret → jr
open Lib renaming hid → jq
open Go.RowKit Row9 Stk
set_option maxRecDepth 100000
set_option maxHeartbeats 4000000
set_option linter.unusedVariables false
def PathEnds (w:World)(R:List Stk×Int)(e:Ending)(w':World):Prop:=
 (if R.2=0 then ∃v rows,e= .returned (.tuple #[v,.int .i64 0])/\Row elS w' v rows/\rows.map (·.1)=R.1 else e= .returned (.tuple #[.slice none 0 0,.int .i64 R.2]))/\Below w.heap.size w w'
theorem path_any {w:World}{V:EV}{E:EnvP}{A:Option Addr}{n c:Nat}{l:List (Ins.Ins×Value)}(h0:EnvOk elGP w V E)(hr:Ins.InRow w (.slice A n c) l)(hK:Ins.KTab w)(hA:Ins.ATab w)(hF:FnBd E)(hln:l.length=n)(hn:n<=200):
  Calls Tryz.prog 21 #[evV V E,.slice A n c] w (PathEnds w (pathR E (l.map (·.1)))):=by
 have HB1:=jq (below2 w (.cells #[.slice V.Pt V.nt V.ct,.slice V.Pf V.nf V.cf,.int .i64 E.tables,.int .i64 E.mems,.slice V.Pg V.ng V.cg,.slice V.Pl V.nl V.cl,.slice V.Pr V.nr V.cr] 45) (.cells #[.slice none 0 0] 60))
 have HX:=jq (blk (zaC w (.cells #[.slice V.Pt V.nt V.ct,.slice V.Pf V.nf V.cf,.int .i64 E.tables,.int .i64 E.mems,.slice V.Pg V.ng V.cg,.slice V.Pl V.nl V.cl,.slice V.Pr V.nr V.cr] 45)) (zaB _ (.cells #[.slice none 0 0] 60)))
 have HZ:=jq (zaC (w.alloc (.cells #[.slice V.Pt V.nt V.ct,.slice V.Pf V.nf V.cf,.int .i64 E.tables,.int .i64 E.mems,.slice V.Pg V.ng V.cg,.slice V.Pl V.nl V.cl,.slice V.Pr V.nr V.cr] 45)) (.cells #[.slice none 0 0] 60))
 rw[zaD] at HZ
 have HJ:Hid (PathJ (w.heap.size+1) [] ((w.alloc (.cells #[.slice V.Pt V.nt V.ct,.slice V.Pf V.nf V.cf,.int .i64 E.tables,.int .i64 E.mems,.slice V.Pg V.ng V.cg,.slice V.Pl V.nl V.cl,.slice V.Pr V.nr V.cr] 45)).alloc (.cells #[.slice none 0 0] 60))):=
  jq ⟨none,0,[],HZ.out,own_nil _ _ _,rfl,(fun g cur e fr hg=>by cases hg),(fun p hp=>by cases hp)⟩
 have HW:=jq (walk_any (path_tell (V:=V) (E:=E) (z:=w.heap.size+1) (Nat.le_succ _)) h0 hr hK hA hF hln hn HB1.out HJ.out)
 clear h0 hr hK hA hF hln hn
 generalize pathR E (l.map (·.1))=R at *
 obtain⟨b0,b1,b2,b3,b4,b5,b6⟩:=cells7 HX.out
 show Calls _ _ #[.agg #[.slice V.Pt V.nt V.ct,.slice V.Pf V.nf V.cf,.int .i64 E.tables,.int .i64 E.mems,.slice V.Pg V.ng V.cg,.slice V.Pl V.nl V.cl,.slice V.Pr V.nr V.cr],.slice A n c] _ _
 go_enter Tryz.func21,Tryz.ntmps21
 go_wp2_with fail
 refine HW.out.mono ?_
 rintro e w1 ⟨rfl,hj,hb⟩
 clear b0 b1 b2 b3 b4 b5 b6
 have HB:=jq hb
 obtain⟨P,c1,rows,h1,h2,h3,h4,h5⟩:=hj
 have HZ1:=jq h1
 have HR:=jq (h2.row h5)
 have HM:=jq h3
 have z0:=(zaA h1 0).1
 simp only[List.getElem?_toArray,List.getElem?_cons_zero] at z0
 obtain⟨L,r⟩:=R
 simp only at h1 h2 h3 h4 h5 z0 HR HM HZ1
 generalize L.length=n1 at *
 clear h1 h2 h3 h4 h5 hb
 by_cases hr:r=0
 ·subst hr
  go_wp2_with fail
  exact jr (v:=.tuple #[.slice P n1 c1,.int .i64 0]) (by simp[results,Tryz.results21,go_sem]) rfl ⟨⟨_,rows,rfl,HR.out,HM.out⟩,HB.out⟩
 ·have hz:(r == 0)=false:=by simpa using hr
  clear z0
  go_wp2_with fail
  exact jr (v:=.tuple #[.slice none 0 0,.int .i64 r]) (by simp[results,Tryz.results21,go_sem]) rfl ⟨by rw[if_neg hr],HB.out⟩
def lastS (t:List Stk):Stk:=t.getLast?.getD none_
def BodyJ (z:Nat)(t:List Stk)(w:World):Prop:=∃P n c Q m d,w.heap[z]? = some (.cells #[.slice P n c,.slice Q m d] 39 (0,0))/\StIs elP w (.agg #[.slice P n c,.slice Q m d]) (lastS t)/\Bd (.ok (lastS t)) 300000
theorem BodyJ.keep {z:Nat}{t:List Stk}{w w':World}(h:BodyJ z t w)(hb:Below w.heap.size w w'):BodyJ z t w':=by
 obtain⟨P,n,c,Q,m,d,h1,h2,h3⟩:=h
 exact⟨P,n,c,Q,m,d,blk h1 hb,h2.keep hb,h3⟩
theorem BodyJ.but {z:Nat}{t:List Stk}{w w':World}{k:Nat}{V:EV}{E:EnvP}{P:Option Addr}{n c:Nat}{Q:Option Addr}{m d:Nat}{e:Int}(h:BodyJ z t w)(hk:w.heap[k]? = some (ckObj V E (.slice P n c) (.slice Q m d) e))(hb:But k w w'):BodyJ z t w':=by
 obtain⟨P,n,c,Q,m,d,h1,h2,h3⟩:=h
 have hz:z≠k:=fun e=>by
  subst e
  rw[h1] at hk
  injection hk with hk
  injection hk with _ hk
  exact absurd hk (by decide)
 exact⟨P,n,c,Q,m,d,(hb.block z (jl h1) hz).trans h1,StIs.apart (e:=72) (hi:=infoP) h2 (nobb_ck hk) hb,h3⟩
theorem cells2s {w:World}{y:Nat}{a b:Value}{t:TypeId}(h:w.heap[y]? = some (.cells #[a,b] t (0,0))):w.cell? ⟨y,0,none⟩=some a/\w.cell? ⟨y,1,none⟩=some b/\w.frozen? ⟨y,0,none⟩=false/\w.frozen? ⟨y,1,none⟩=false:=
 ⟨(zaA h 0).1,(zaA h 1).1,(zaA h 0).2,(zaA h 1).2⟩
theorem body1_any {z B:Nat}{t:List Stk}{w:World}{v:Value}{s:Stk}(h:BodyJ z t w)(hB:B<=z)(hs:StIs elP w v s)(hbd:Bd (.ok s) 300000):
  Calls Tryz.prog 51 (#[v] ++ #[.pointer (some ⟨z,0,none⟩)]) w fun e w'=>e= .returned (.tuple #[])/\BodyJ z (t ++ [s]) w'/\Tw B w w':=by
 obtain⟨P,n,c,Q,m,d,h1,h2,h3⟩:=h
 obtain⟨va,vc,lc,rfl,ha,hc,hm⟩:=id hs
 obtain⟨Pa,ca,rfl,_⟩:=ha.form
 obtain⟨Pc,cc,rfl,_⟩:=hc.form
 have hla:lastS (t ++ [s])=s:=by unfold lastS;simp
 have HLA:=jq hla
 have HBD:=jq hbd
 generalize s.vals.length=na at *
 generalize lc.length=nc at *
 have HZ:=jq h1
 have HST:=jq hs
 obtain⟨z0,z1,f0,f1⟩:=cells2s h1
 have zl:=jl h1
 clear h1 h2 h3 hs ha hc hm hla hbd
 show Calls _ _ #[.agg #[.slice Pa na ca,.slice Pc nc cc],.pointer (some ⟨z,0,none⟩)] _ _
 go_enter Tryz.func51,Tryz.ntmps51
 go_wp2_with fail
 have hbz:But z w ((w.setCell ⟨z,0,none⟩ (.slice Pa na ca)).setCell ⟨z,1,none⟩ (.slice Pc nc cc)):=((But.refl z w).setCell 0 _).setCell 1 _
 have hnz:NoBB w z:=nobb_of HZ.out (by intro u hu;simp only[List.mem_cons,List.not_mem_nil,or_false] at hu;rcases hu with rfl | rfl <;> exact nop_slice _ _ _)
 have hz2:((w.setCell ⟨z,0,none⟩ (.slice Pa na ca)).setCell ⟨z,1,none⟩ (.slice Pc nc cc)).heap[z]? = some (.cells #[.slice Pa na ca,.slice Pc nc cc] 39 (0,0)):=by
  rw[zaE (zaE HZ.out _)]
  rfl
 have hs2:=StIs.apart (e:=72) (hi:=infoP) HST.out hnz hbz
 generalize (w.setCell ⟨z,0,none⟩ (.slice Pa na ca)).setCell ⟨z,1,none⟩ (.slice Pc nc cc)=u0 at *
 have hbn:=zaB u0 (.cells #[.slice Pa na ca,.slice Pc nc cc] 39)
 refine bodyPost_end (v:=.tuple #[]) (by simp[results,Tryz.results51,go_sem]) rfl ⟨rfl,⟨Pa,na,ca,Pc,nc,cc,blk hz2 hbn,?_,?_⟩,(((Tw.refl w).but hnz hB HZ.out (by decide) (by decide) hbz).keep hbn)⟩
 ·rw[HLA.out]
  exact hs2.keep hbn
 ·rw[HLA.out]
  exact HBD.out
theorem body_tell {w0:World}{V:EV}{E:EnvP}{z:Nat}(hz:w0.heap.size<=z):Tell w0 V E 51 (.pointer (some ⟨z,0,none⟩)) (BodyJ z) where
 ok:=⟨_,Tryz.func51,by kernel_rfl,by kernel_rfl⟩
 keep:=fun h hb=>h.keep hb
 but:=fun h _ hk hb=>h.but hk hb
 call:=fun h _ hs hbd _=>body1_any h hz hs hbd
def bodyR (E:EnvP)(l:List Ins.Ins):Int:=if (pathR E l).2=0 then (if (zaM (lastS (pathR E l).1)).2.2=0 then 0 else 5) else (pathR E l).2
theorem body_any {w:World}{V:EV}{E:EnvP}{A:Option Addr}{n c:Nat}{l:List (Ins.Ins×Value)}(h0:EnvOk elGP w V E)(hr:Ins.InRow w (.slice A n c) l)(hK:Ins.KTab w)(hA:Ins.ATab w)(hF:FnBd E)(hln:l.length=n)(hn:n<=200):
  Calls Tryz.prog 23 #[evV V E,.slice A n c] w fun e w'=>e= .returned (.int .i64 (bodyR E (l.map (·.1))))/\Below w.heap.size w w':=by
 have HB1:=jq (below2 w (.cells #[.slice V.Pt V.nt V.ct,.slice V.Pf V.nf V.cf,.int .i64 E.tables,.int .i64 E.mems,.slice V.Pg V.ng V.cg,.slice V.Pl V.nl V.cl,.slice V.Pr V.nr V.cr] 45) (.cells #[.slice none 0 0,.slice none 0 0] 39))
 have HX:=jq (blk (zaC w (.cells #[.slice V.Pt V.nt V.ct,.slice V.Pf V.nf V.cf,.int .i64 E.tables,.int .i64 E.mems,.slice V.Pg V.ng V.cg,.slice V.Pl V.nl V.cl,.slice V.Pr V.nr V.cr] 45)) (zaB _ (.cells #[.slice none 0 0,.slice none 0 0] 39)))
 have HZ:=jq (zaC (w.alloc (.cells #[.slice V.Pt V.nt V.ct,.slice V.Pf V.nf V.cf,.int .i64 E.tables,.int .i64 E.mems,.slice V.Pg V.ng V.cg,.slice V.Pl V.nl V.cl,.slice V.Pr V.nr V.cr] 45)) (.cells #[.slice none 0 0,.slice none 0 0] 39))
 rw[zaD] at HZ
 have HJ:Hid (BodyJ (w.heap.size+1) [] ((w.alloc (.cells #[.slice V.Pt V.nt V.ct,.slice V.Pf V.nf V.cf,.int .i64 E.tables,.int .i64 E.mems,.slice V.Pg V.ng V.cg,.slice V.Pl V.nl V.cl,.slice V.Pr V.nr V.cr] 45)).alloc (.cells #[.slice none 0 0,.slice none 0 0] 39))):=
  jq ⟨none,0,0,none,0,0,HZ.out,StIs.none_ _ _,fun s h=>by injection h with h;subst h;exact⟨Nat.zero_le _,Nat.zero_le _⟩⟩
 have HW:=jq (walk_any (body_tell (V:=V) (E:=E) (z:=w.heap.size+1) (Nat.le_succ _)) h0 hr hK hA hF hln hn HB1.out HJ.out)
 clear h0 hr hK hA hF hln hn
 have HBE:Hid (bodyR E (l.map (·.1))=if (pathR E (l.map (·.1))).2=0 then (if (zaM (lastS (pathR E (l.map (·.1))).1)).2.2=0 then 0 else 5) else (pathR E (l.map (·.1))).2):=rfl
 generalize bodyR E (l.map (·.1))=rr at *
 generalize pathR E (l.map (·.1))=R at *
 obtain⟨b0,b1,b2,b3,b4,b5,b6⟩:=cells7 HX.out
 show Calls _ _ #[.agg #[.slice V.Pt V.nt V.ct,.slice V.Pf V.nf V.cf,.int .i64 E.tables,.int .i64 E.mems,.slice V.Pg V.ng V.cg,.slice V.Pl V.nl V.cl,.slice V.Pr V.nr V.cr],.slice A n c] _ _
 go_enter Tryz.func23,Tryz.ntmps23
 go_wp2_with fail
 refine HW.out.mono ?_
 rintro e w1 ⟨rfl,⟨P,n1,c1,Q,m1,d1,h1,h2,h3⟩,hb⟩
 clear b0 b1 b2 b3 b4 b5 b6
 have HB:=jq hb
 obtain⟨L,r⟩:=R
 simp only at h1 h2 h3
 have HC:=jq (Close_st h2 (Nat.le_trans (h3 _ rfl).1 (by omega)) (Nat.le_trans (h3 _ rfl).2 (by omega)))
 obtain⟨z0,z1,_,_⟩:=cells2s h1
 have zl:=jl h1
 clear h1 h2 h3 hb
 by_cases hr:r=0
 ·subst hr
  go_wp2_with fail
  refine HC.out.mono ?_
  rintro e w2 ⟨⟨v,u,rfl,hs,hu⟩,hb⟩
  obtain⟨va,vc,lc,rfl,ha,hc,_⟩:=hs
  obtain⟨Pa,ca,rfl,_⟩:=ha.form
  obtain⟨Pc,cc,rfl,_⟩:=hc.form
  obtain⟨Pu,cu,rfl,_⟩:=hu.form
  have HB2:=jq (HB.out.trans (hb.mono HB.out.size))
  clear z0 z1 zl ha hc hb HC hu
  generalize zaM (lastS L)=C at *
  obtain⟨C1,C2,ce⟩:=C
  by_cases he:ce=0
  ·subst he
   go_wp2_with fail
   exact jr (v:=.int .i64 0) (by simp[results,Tryz.results23,go_sem]) rfl ⟨by rw[HBE.out];rfl,(HB2.out.alloc HB2.out.size _).alloc (Nat.le_trans HB2.out.size (by rw[zaD];omega)) _⟩
  ·have hz:(ce == 0)=false:=by simpa using he
   go_wp2_with fail
   exact jr (v:=.int .i64 5) (by simp[results,Tryz.results23,go_sem]) rfl ⟨by rw[HBE.out,if_pos trivial,if_neg he],(HB2.out.alloc HB2.out.size _).alloc (Nat.le_trans HB2.out.size (by rw[zaD];omega)) _⟩
 ·have hz:(r == 0)=false:=by simpa using hr
  clear z0 z1 zl HC
  go_wp2_with fail
  exact jr (v:=.int .i64 r) (by simp[results,Tryz.results23,go_sem]) rfl ⟨by rw[HBE.out,if_neg hr],HB.out⟩
def e0:EnvP:=⟨[],[],0,0,[],[],[]⟩
def e1:EnvP:=⟨[],[],0,0,[],[],[127]⟩
def v0:EV:=⟨none,0,0,none,0,0,none,0,0,none,0,0,none,0,0⟩
def v1 (g:Nat):EV:=⟨none,0,0,none,0,0,none,0,0,none,0,0,some ⟨g,0,none⟩,1,1⟩
def upL:List (Ins.Ins×Value):=[(⟨65,0,0,0,[]⟩,.slice none 0 0),(⟨26,0,0,0,[]⟩,.slice none 0 0)]
def upC:Array Value:=#[.int .i64 65,.int .i64 0,.int .i64 0,.int .u64 0,.slice none 0 0,.int .i64 26,.int .i64 0,.int .i64 0,.int .u64 0,.slice none 0 0]
theorem up_ok (w:World)(o:Int):Ins.InOk w (⟨o,0,0,0,[]⟩,.slice none 0 0):=⟨Ins.SlI.nil w,(show Ints.u64R 0 by unfold Ints.u64R;decide)⟩
theorem up_row (w:World):Ins.InRow (w.alloc (.cells upC 33)) (.slice (some ⟨w.heap.size,0,none⟩) 2 2) upL:=by
 refine⟨⟨_,2,rfl,by decide,by decide,fun _=>⟨w.heap.size,0,rfl,by rw[zaD];omega,fun j p hp=>?_⟩⟩,fun p hp=>?_⟩
 ·match j,hp with
  | 0,hp=>simp only[upL,List.getElem?_cons_zero,Option.some.injEq] at hp;subst hp;exact⟨by simp[upC],by simp[upC],by simp[upC],by simp[upC],by simp[upC]⟩
  | 1,hp=>simp only[upL,List.getElem?_cons_zero,List.getElem?_cons_succ,Option.some.injEq] at hp;subst hp;exact⟨by simp[upC],by simp[upC],by simp[upC],by simp[upC],by simp[upC]⟩
  | j+2,hp=>simp[upL] at hp
 ·simp only[upL,List.mem_cons,List.not_mem_nil,or_false] at hp
  rcases hp with rfl | rfl
  ·exact up_ok _ _
  ·exact up_ok _ _
theorem inrow_take {w:World}{A:Option Addr}{n c:Nat}{l:List (Ins.Ins×Value)}(h:Ins.InRow w (.slice A n c) l)(k:Nat)(hk:k<=n):Ins.InRow w (.slice A k c) (l.take k):=by
 obtain⟨⟨A',c',h1,h2,h3,h4⟩,h5⟩:=h
 injection h1 with e1 e2 e3
 subst e1 e3
 have hl:(l.take k).length=k:=by rw[List.length_take,<- e2];omega
 refine⟨⟨A,c,by rw[hl],by rw[hl];omega,h3,fun h0=>?_⟩,fun p hp=>h5 p (List.mem_of_mem_take hp)⟩
 obtain⟨g,off,e,hg,hB⟩:=h4 (fun e=>h0 (by rw[e,List.take_nil]))
 refine⟨g,off,e,hg,fun j p hp=>hB j p ?_⟩
 rw[List.getElem?_take] at hp
 split at hp
 ·exact hp
 ·cases hp
theorem env_0 (w:World):EnvOk elGP w v0 e0:=⟨⟨[],Row.nil _ _,rfl⟩,Row.nil _ _,Row.nil _ _,Row.nil _ _,Row.nil _ _,by unfold w64 e0;decide,by unfold w64 e0;decide⟩
theorem env_1 (w:World):EnvOk elGP (w.alloc (.cells #[.int .u8 127] 5)) (v1 w.heap.size) e1:=⟨⟨[],Row.nil _ _,rfl⟩,Row.nil _ _,Row.nil _ _,Row.nil _ _,zaL w 127 ⟨by omega,by omega⟩,by unfold w64 e1;decide,by unfold w64 e1;decide⟩
theorem bd_0:FnBd e0:=⟨(fun p hp=>nomatch hp),Nat.zero_le _⟩
theorem bd_1:FnBd e1:=⟨(fun p hp=>nomatch hp),show 1<=1000 by omega⟩
theorem up_p2:(pathR e0 (upL.map (·.1))).2=0:=by kernel_rfl
theorem up_p1:(pathR e0 (upL.map (·.1))).1.length=3:=by kernel_rfl
theorem up_b0:bodyR e0 (upL.map (·.1))=0:=by kernel_rfl
theorem up_b1:bodyR e1 (upL.map (·.1))=5:=by kernel_rfl
theorem up_b2:bodyR e1 ((upL.take 1).map (·.1))=0:=by kernel_rfl
theorem awake_any {w:World}(hK:Ins.KTab w)(hA:Ins.ATab w):Calls Tryz.prog 9 #[] w fun e w'=>e= .returned (.bool true)/\Below w.heap.size w w':=by
 have HBN:=jq (zaB w (.cells upC 33))
 have HR:=jq (up_row w)
 have HKT:=jq (hK.keep HBN.out)
 have HAT:=jq (hA.keep HBN.out)
 have HP:=jq (path_any (env_0 _) HR.out HKT.out HAT.out bd_0 rfl (by decide))
 clear hK hA
 go_enter Tryz.func9,Tryz.ntmps9
 go_wp2_with fail
 rw[show (.cells #[.int .i64 65,.int .i64 0,.int .i64 0,.int .u64 0,.slice none 0 0,.int .i64 26,.int .i64 0,.int .i64 0,.int .u64 0,.slice none 0 0] 33:Obj)= .cells upC 33 from rfl]
 generalize w.alloc (.cells upC 33)=W at *
 refine HP.out.mono ?_
 rintro e w1 ⟨hres,hb⟩
 rw[if_pos up_p2] at hres
 obtain⟨v,rows,rfl,hrow,hm⟩:=hres
 have hlen:rows.length=3:=by rw[<- up_p1,<- hm,List.length_map]
 obtain⟨P,c,rfl,_⟩:=hrow.form
 rw[hlen]
 clear hrow hm hlen
 have HB1:=jq (HBN.out.trans (hb.mono HBN.out.size))
 have HR:=jq (HR.out.keep hb)
 have HKT:=jq (HKT.out.keep hb)
 have HAT:=jq (HAT.out.keep hb)
 clear hb HP
 go_wp2_with fail
 refine(body_any (env_0 _) HR.out HKT.out HAT.out bd_0 rfl (by decide)).mono ?_
 rintro e w2 ⟨rfl,hb⟩
 rw[up_b0]
 have HNA:=jq (zaB w2 (.cells #[.int .u8 127] 5))
 have hb2:=hb.trans (HNA.out.mono hb.size)
 have HB2:=jq (HB1.out.trans (hb2.mono HB1.out.size))
 have HR:=jq (HR.out.keep hb2)
 have HKT:=jq (HKT.out.keep hb2)
 have HAT:=jq (HAT.out.keep hb2)
 clear hb hb2
 go_wp2_with fail
 refine(body_any (env_1 w2) HR.out HKT.out HAT.out bd_1 rfl (by decide)).mono ?_
 rintro e w3 ⟨rfl,hb⟩
 rw[up_b1]
 have HNA3:=jq (zaB w3 (.cells #[.int .u8 127] 5))
 have hb2:=hb.trans (HNA3.out.mono hb.size)
 have HB3:=jq (HB2.out.trans (hb2.mono HB2.out.size))
 have HR:=jq (HR.out.keep hb2)
 have HKT:=jq (HKT.out.keep hb2)
 have HAT:=jq (HAT.out.keep hb2)
 clear hb hb2
 go_wp2_with fail
 refine(body_any (env_1 w3) (inrow_take HR.out 1 (by decide)) HKT.out HAT.out bd_1 rfl (by decide)).mono ?_
 rintro e w4 ⟨rfl,hb⟩
 rw[up_b2]
 have HB4:=jq (HB3.out.trans (hb.mono HB3.out.size))
 clear hb
 go_wp2_with fail
 exact jr (v:=.bool true) (by simp[results,Tryz.results9,go_sem]) rfl ⟨rfl,HB4.out⟩
def StepEnds (w:World)(x:Rs)(e:Ending)(w':World):Prop:=
 (match x with
  | .ok s=>∃v,e= .returned (.tuple #[v,.int .i64 0])/\StIs elP w' v s
  | .er c=>c≠0/\e= .returned (.tuple #[.agg #[.slice none 0 0,.slice none 0 0],.int .i64 c]))/\Below w.heap.size w w'
theorem stepR_sane {E:EnvP}{i:Ins.Ins}{s:Stk}(h:sane s=true):stepR E i s=instrR E i s:=by
 unfold stepR instrR
 rw[if_neg (by rw[h];simp)]
theorem stepR_not {E:EnvP}{i:Ins.Ins}{s:Stk}(h:sane s=false):stepR E i s= .er 1:=by
 unfold stepR
 rw[if_pos h]
theorem below_dr2 {B:Nat}{w w':World}(h:Below B w w'):Below B w w'.drew:=⟨h.os,h.tape,h.output,h.size,h.block⟩
theorem step_any {w:World}{V:EV}{E:EnvP}{s:Stk}{v lab:Value}{i:Ins.Ins}(h0:EnvOk elGP w V E)(hs:StIs elP w v s)(hbd:Bd (.ok s) 300000)(hK:Ins.KTab w)(hA:Ins.ATab w)(hF:FnBd E)(hl:Ins.SlI w lab i.L)(hu:Ints.u64R i.K):
  Calls Tryz.prog 12 #[evV V E,v,.agg #[.int .i64 i.op,.int .i64 i.A,.int .i64 i.B,.int .u64 i.K,lab]] w (StepEnds w (stepR E i s)):=by
 obtain⟨va,vc,lc,rfl,ha,hc,hm⟩:=id hs
 obtain⟨Pa,ca,rfl,_⟩:=ha.form
 obtain⟨Pc,cc,rfl,_⟩:=hc.form
 obtain⟨Pl,cl,rfl,_⟩:=id hl
 obtain⟨op,iA,iB,iK,iL⟩:=i
 simp only at hl hu
 have HB1:=jq (below4 w (.cells #[.slice V.Pt V.nt V.ct,.slice V.Pf V.nf V.cf,.int .i64 E.tables,.int .i64 E.mems,.slice V.Pg V.ng V.cg,.slice V.Pl V.nl V.cl,.slice V.Pr V.nr V.cr] 45) (.cells #[.slice Pa s.vals.length ca,.slice Pc lc.length cc] 39) (.cells #[.int .i64 op,.int .i64 iA,.int .i64 iB,.int .u64 iK,.slice Pl iL.length cl] 33) (.cells #[.slice none 0 0,.slice none 0 0] 39))
 have HX0:=jq (blk (blk (blk (zaC w (.cells #[.slice V.Pt V.nt V.ct,.slice V.Pf V.nf V.cf,.int .i64 E.tables,.int .i64 E.mems,.slice V.Pg V.ng V.cg,.slice V.Pl V.nl V.cl,.slice V.Pr V.nr V.cr] 45)) (zaB _ (.cells #[.slice Pa s.vals.length ca,.slice Pc lc.length cc] 39))) (zaB _ (.cells #[.int .i64 op,.int .i64 iA,.int .i64 iB,.int .u64 iK,.slice Pl iL.length cl] 33))) (zaB _ (.cells #[.slice none 0 0,.slice none 0 0] 39)))
 have HX1:=jq (blk (blk (zaC (w.alloc (.cells #[.slice V.Pt V.nt V.ct,.slice V.Pf V.nf V.cf,.int .i64 E.tables,.int .i64 E.mems,.slice V.Pg V.ng V.cg,.slice V.Pl V.nl V.cl,.slice V.Pr V.nr V.cr] 45)) (.cells #[.slice Pa s.vals.length ca,.slice Pc lc.length cc] 39)) (zaB _ (.cells #[.int .i64 op,.int .i64 iA,.int .i64 iB,.int .u64 iK,.slice Pl iL.length cl] 33))) (zaB _ (.cells #[.slice none 0 0,.slice none 0 0] 39)))
 have HX2:=jq (blk (zaC ((w.alloc (.cells #[.slice V.Pt V.nt V.ct,.slice V.Pf V.nf V.cf,.int .i64 E.tables,.int .i64 E.mems,.slice V.Pg V.ng V.cg,.slice V.Pl V.nl V.cl,.slice V.Pr V.nr V.cr] 45)).alloc (.cells #[.slice Pa s.vals.length ca,.slice Pc lc.length cc] 39)) (.cells #[.int .i64 op,.int .i64 iA,.int .i64 iB,.int .u64 iK,.slice Pl iL.length cl] 33)) (zaB _ (.cells #[.slice none 0 0,.slice none 0 0] 39)))
 have HX3:=jq (zaC (((w.alloc (.cells #[.slice V.Pt V.nt V.ct,.slice V.Pf V.nf V.cf,.int .i64 E.tables,.int .i64 E.mems,.slice V.Pg V.ng V.cg,.slice V.Pl V.nl V.cl,.slice V.Pr V.nr V.cr] 45)).alloc (.cells #[.slice Pa s.vals.length ca,.slice Pc lc.length cc] 39)).alloc (.cells #[.int .i64 op,.int .i64 iA,.int .i64 iB,.int .u64 iK,.slice Pl iL.length cl] 33)) (.cells #[.slice none 0 0,.slice none 0 0] 39))
 rw[zaD] at HX1
 rw[zaD,zaD] at HX2
 rw[zaD,zaD,zaD] at HX3
 have HSN:=jq (Sane_st (hs.keep HB1.out))
 have HST:=jq (hs.keep HB1.out)
 have HE0:=jq (h0.keep HB1.out)
 have HK0:=jq (hK.keep HB1.out)
 have HA0:=jq (hA.keep HB1.out)
 have HL0:=jq (hl.keep HB1.out)
 have HUK:=jq hu
 have HFB:=jq hF
 have HBI:=jq hbd
 obtain⟨b0,b1,b2,b3,b4,b5,b6⟩:=cells7 HX0.out
 obtain⟨c0,c1⟩:_/\_:=⟨(zaA HX1.out 0).1,(zaA HX1.out 1).1⟩
 obtain⟨d0,d1,d2,d3,d4⟩:=cells5i HX2.out
 obtain⟨r0,r1,f0,f1⟩:_/\_/\_/\_:=⟨(zaA HX3.out 0).1,(zaA HX3.out 1).1,(zaA HX3.out 0).2,(zaA HX3.out 1).2⟩
 simp only[List.getElem?_toArray,List.getElem?_cons_zero,List.getElem?_cons_succ] at c0 c1 r0 r1
 clear h0 hs hbd hK hA hF hl hu ha hc hm
 show Calls _ _ #[.agg #[.slice V.Pt V.nt V.ct,.slice V.Pf V.nf V.cf,.int .i64 E.tables,.int .i64 E.mems,.slice V.Pg V.ng V.cg,.slice V.Pl V.nl V.cl,.slice V.Pr V.nr V.cr],.agg #[.slice Pa s.vals.length ca,.slice Pc lc.length cc],.agg #[.int .i64 op,.int .i64 iA,.int .i64 iB,.int .u64 iK,.slice Pl iL.length cl]] _ _
 obtain⟨na,hna⟩:∃n,s.vals.length=n:=⟨_,rfl⟩
 obtain⟨nc,hnc⟩:∃n,lc.length=n:=⟨_,rfl⟩
 obtain⟨nl,hnl⟩:∃n,iL.length=n:=⟨_,rfl⟩
 simp only[hna,hnc,hnl] at *
 obtain⟨X,hX⟩:∃X,stepR E ⟨op,iA,iB,iK,iL⟩ s=X:=⟨_,rfl⟩
 rw[hX]
 have HRX:=jq hX
 clear hX hna hnc hnl
 go_enter Tryz.func12,Tryz.ntmps12
 go_wp2_with fail
 generalize ((((w.alloc (.cells #[.slice V.Pt V.nt V.ct,.slice V.Pf V.nf V.cf,.int .i64 E.tables,.int .i64 E.mems,.slice V.Pg V.ng V.cg,.slice V.Pl V.nl V.cl,.slice V.Pr V.nr V.cr] 45)).alloc (.cells #[.slice Pa na ca,.slice Pc nc cc] 39)).alloc (.cells #[.int .i64 op,.int .i64 iA,.int .i64 iB,.int .u64 iK,.slice Pl nl cl] 33)).alloc (.cells #[.slice none 0 0,.slice none 0 0] 39))=W at *
 obtain⟨y,hy⟩:∃y,w.heap.size=y:=⟨_,rfl⟩
 rw[hy] at HX0 HX1 HX2 HX3
 simp only[hy]
 have HWY:=jq hy
 clear hy
 refine HSN.out.mono ?_
 rintro e w1 ⟨rfl,hb⟩
 have HX0:=jq (blk HX0.out hb)
 have HX1:=jq (blk HX1.out hb)
 have HX2:=jq (blk HX2.out hb)
 have HX3:=jq (blk HX3.out hb)
 have HST:=jq (HST.out.keep hb)
 have HE0:=jq (HE0.out.keep hb)
 have HK0:=jq (HK0.out.keep hb)
 have HA0:=jq (HA0.out.keep hb)
 have HL0:=jq (HL0.out.keep hb)
 have HB1:=jq (HB1.out.trans (hb.mono HB1.out.size))
 clear hb b0 b1 b2 b3 b4 b5 b6 c0 c1 d0 d1 d2 d3 d4 r0 r1 f0 f1 HSN
 obtain⟨b0,b1,b2,b3,b4,b5,b6⟩:=cells7 HX0.out
 obtain⟨c0,c1⟩:_/\_:=⟨(zaA HX1.out 0).1,(zaA HX1.out 1).1⟩
 obtain⟨r0,r1,f0,f1⟩:_/\_/\_/\_:=⟨(zaA HX3.out 0).1,(zaA HX3.out 1).1,(zaA HX3.out 0).2,(zaA HX3.out 1).2⟩
 simp only[List.getElem?_toArray,List.getElem?_cons_zero,List.getElem?_cons_succ] at c0 c1 r0 r1
 cases hsn:sane s with
 | false=>
  rw[stepR_not hsn] at HRX
  obtain rfl:=HRX.out
  clear hsn
  go_wp2_with fail
  have hby:=HWY.out
  refine jr (v:=.tuple #[.agg #[.slice none 0 0,.slice none 0 0],.int .i64 1]) ?_ rfl ⟨⟨by decide,rfl⟩,(HB1.out.setCell (p:=⟨y+1+1+1,0,none⟩) (by show w.heap.size<=y+1+1+1;omega) _).setCell (p:=⟨y+1+1+1,1,none⟩) (by show w.heap.size<=y+1+1+1;omega) _⟩
  have hx:=zaE (zaE HX3.out (i:=0) (.slice none 0 0)) (i:=1) (.slice none 0 0)
  obtain⟨q0,q1⟩:_/\_:=⟨(zaA hx 0).1,(zaA hx 1).1⟩
  simp[results,Tryz.results12,go_sem,q0,q1]
 | true=>
  rw[stepR_sane hsn] at HRX
  clear hsn
  have HNK:=jq (zaB w1 (ckObj V E (.slice Pa na ca) (.slice Pc nc cc) 0))
  have HCK:Hid (Cx (w1.alloc (ckObj V E (.slice Pa na ca) (.slice Pc nc cc) 0)) w1.heap.size V E (.ok s)):=jq ⟨⟨Pa,na,ca,Pc,nc,cc,zaC _ _,fun s' h=>by injection h with h;subst h;exact HST.out.keep HNK.out⟩,(fun e h=>nomatch h),w1,HE0.out,Nat.le_refl _,HNK.out⟩
  obtain⟨d0,d1,d2,d3,d4⟩:=cells5i HX2.out
  have dl:=jl HX2.out
  have HKY:Hid (y+1+1+1≠w1.heap.size):=jq (Nat.ne_of_lt (jl HX3.out))
  have HX3:=jq (blk HX3.out HNK.out)
  have HLB:Hid (LabAt (w1.alloc (ckObj V E (.slice Pa na ca) (.slice Pc nc cc) 0)) w1.heap.size (.slice Pl nl cl) iL):=jq ⟨w1,HL0.out,Nat.le_refl _,HNK.out⟩
  go_wp2_with fail
  clear b0 b1 b2 b3 b4 b5 b6 c0 c1 d0 d1 d2 d3 d4 r0 r1 f0 f1 dl
  refine(take_ck (i:=⟨op,iA,iB,iK,iL⟩) HCK.out HBI.out HFB.out HLB.out HUK.out (HK0.out.keep HNK.out) (HA0.out.keep HNK.out)).mono ?_
  rintro e w2 ⟨rfl,hc,hbt⟩
  have HBW:=jq (HB1.out.trans ((HNK.out.trans (hbt.below (Nat.le_refl _) HCK.out.lt)).mono HB1.out.size))
  have HX3:=jq ((hbt.block (y+1+1+1) (jl HX3.out) HKY.out).trans HX3.out)
  obtain⟨r0,r1,f0,f1⟩:_/\_/\_/\_:=⟨(zaA HX3.out 0).1,(zaA HX3.out 1).1,(zaA HX3.out 0).2,(zaA HX3.out 1).2⟩
  simp only[List.getElem?_toArray,List.getElem?_cons_zero,List.getElem?_cons_succ] at r0 r1
  rw[HRX.out] at hc
  clear hbt HNK HLB HCK HKY HRX
  generalize w1.heap.size=k at *
  cases X with
  | er ee=>
   obtain⟨P,n1,c1,Q,m1,d1,hck,hz⟩:=hc.er
   have HNE:=jq (hc.ne ee rfl)
   obtain⟨c7,c8,c9,f7,f8,f9⟩:=cells10 hck
   clear hck hc
   go_wp2_with fail
   go_region
   all_goals (
    go_wp2_with fail
    have hby:=HWY.out
    refine jr (v:=.tuple #[.agg #[.slice none 0 0,.slice none 0 0],.int .i64 ee]) ?_ rfl ⟨⟨HNE.out,rfl⟩,below_dr2 ((HBW.out.setCell (p:=⟨y+1+1+1,0,none⟩) (by show w.heap.size<=y+1+1+1;omega) _).setCell (p:=⟨y+1+1+1,1,none⟩) (by show w.heap.size<=y+1+1+1;omega) _)⟩
    have hx:(((w2.setCell ⟨y+1+1+1,0,none⟩ (.slice none 0 0)).setCell ⟨y+1+1+1,1,none⟩ (.slice none 0 0)).drew).heap[y+1+1+1]? = some (.cells #[.slice none 0 0,.slice none 0 0] 39 (0,0)):=zaE (zaE HX3.out (i:=0) (.slice none 0 0)) (i:=1) (.slice none 0 0)
    obtain⟨q0,q1⟩:_/\_:=⟨(zaA hx 0).1,(zaA hx 1).1⟩
    simp[results,Tryz.results12,go_sem,q0,q1])
  | ok s2=>
   obtain⟨P,n1,c1,Q,m1,d1,hck,hst⟩:=hc.ok
   have HCX:=jq hc
   have HSS:=jq hst
   obtain⟨c7,c8,c9,f7,f8,f9⟩:=cells10 hck
   clear hck hc hst
   go_wp2_with fail
   have hby:=HWY.out
   have hbz:But (y+1+1+1) w2 ((w2.setCell ⟨y+1+1+1,0,none⟩ (.slice P n1 c1)).setCell ⟨y+1+1+1,1,none⟩ (.slice Q m1 d1)):=((But.refl _ w2).setCell 0 _).setCell 1 _
   have hnz:NoBB w2 (y+1+1+1):=nobb_of HX3.out (by intro u hu;simp only[List.mem_cons,List.not_mem_nil,or_false] at hu;rcases hu with rfl | rfl <;> exact nop_slice _ _ _)
   refine jr (v:=.tuple #[.agg #[.slice P n1 c1,.slice Q m1 d1],.int .i64 0]) ?_ rfl ⟨⟨_,rfl,StIs.apart (e:=72) (hi:=infoP) HSS.out hnz hbz⟩,(HBW.out.setCell (p:=⟨y+1+1+1,0,none⟩) (by show w.heap.size<=y+1+1+1;omega) _).setCell (p:=⟨y+1+1+1,1,none⟩) (by show w.heap.size<=y+1+1+1;omega) _⟩
   have hx:=zaE (zaE HX3.out (i:=0) (.slice P n1 c1)) (i:=1) (.slice Q m1 d1)
   obtain⟨q0,q1⟩:_/\_:=⟨(zaA hx 0).1,(zaA hx 1).1⟩
   simp[results,Tryz.results12,go_sem,q0,q1]
end Go.Proofs.YtlappkflnlbfcaaGreatDoor.Chk
