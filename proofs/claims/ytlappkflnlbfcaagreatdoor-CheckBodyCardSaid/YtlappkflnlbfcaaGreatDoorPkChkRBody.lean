import Derived.Test.YtlappkflnlbfcaaGreatDoorPkChkRPath
import Derived.Test.YtlappkflnlbfcaaGreatDoorPkChkStepP
import Derived.Test.YtlappkflnlbfcaaGreatDoorPkStkROpen
namespace Go.Proofs.YtlappkflnlbfcaaGreatDoor.Chk
open Lib renaming hid → jq
open Go.RowKit Row9 Stk
set_option maxRecDepth 100000
set_option maxHeartbeats 4000000
set_option linter.unusedVariables false
theorem stk_atD {w:World}{P:Option Addr}{n c:Nat}{rows:List StV}{R:List Stk}(h:Row elSD w (.slice P n c) rows)(hm:rows.map (·.1)=R){k:Nat}{a:Stk}(hk:R[k]? = some a):
  ∃g off Pv cv Pc cc lc,P=some ⟨g,off,none⟩/\g<w.heap.size/\w.cell? ⟨g,off+k*2,none⟩=some (.slice Pv a.vals.length cv)/\w.cell? ⟨g,off+k*2+1,none⟩=some (.slice Pc a.cs.length cc)/\Row elB w (.slice Pv a.vals.length cv) a.vals/\Row elD w (.slice Pc a.cs.length cc) lc/\lc.map (·.1)=a.cs:=by
 rw[<- hm,List.getElem?_map] at hk
 cases hp:rows[k]? with
 | none=>rw[hp] at hk;cases hk
 | some p=>
  rw[hp] at hk
  obtain rfl:=Option.some.inj hk
  obtain⟨g,off,e,hg,hC,hO⟩:=h.at_ hp
  obtain⟨va,vc,lc,e2,h1,h2,h3⟩:=hO
  have c0:w.cell? ⟨g,off+k*2,none⟩=some p.2.1:=hC 0 _ rfl
  have c1:w.cell? ⟨g,off+k*2+1,none⟩=some p.2.2:=hC 1 _ rfl
  injection e2 with e2
  have e2:=congrArg Array.toList e2
  simp only[List.cons.injEq,and_true] at e2
  obtain⟨e3,e4⟩:=e2
  rw[e3] at c0
  rw[e4] at c1
  obtain⟨Pv,cv,rfl,_⟩:=h1.form
  obtain⟨Pc,cc,e5,_⟩:=h2.form
  have hl:lc.length=p.1.cs.length:=by rw[<- h3,List.length_map]
  rw[hl] at e5
  subst e5
  exact⟨g,off,Pv,cv,Pc,cc,lc,e,hg,c0,c1,h1,h2,h3⟩
theorem stk_isD {w:World}{Pv Pc:Option Addr}{cv cc:Nat}{a:Stk}{lc:List CtV}(h1:Row elB w (.slice Pv a.vals.length cv) a.vals)(h2:Row elD w (.slice Pc a.cs.length cc) lc)(h3:lc.map (·.1)=a.cs):StIs elD w (.agg #[.slice Pv a.vals.length cv,.slice Pc a.cs.length cc]) a:=⟨_,_,lc,rfl,h1,h2,h3⟩
theorem path_bd {E:EnvP}{l:List Ins.Ins}(hF:FnBd E)(hl:l.length<=200)(h:(pathR E l).2=0){t:Stk}(ht:t∈(pathR E l).1):Bd (.ok t) 300000:=by
 rw[(path_ok h).2.2.1] at ht
 exact(go_bd hF l (s0 E) 1 (s0_bd E) t ht).mono (by omega)
theorem rbody_any {w:World}{V:EV}{E:EnvP}{A:Option Addr}{n c:Nat}{l:List (Ins.Ins×Value)}(h0:EnvOk elGD w V E)(hr:Ins.InRow w (.slice A n c) l)(hF:FnBd E)(hN:E.globs.length<=1000000/\E.locals.length<=1000000/\E.types.length<=1000000)(hln:l.length=n)(hn:n<=200):
  Calls Tryz.prog 24 #[.agg #[.slice V.Pt V.nt V.ct,.slice V.Pf V.nf V.cf,.int .i64 E.tables,.int .i64 E.mems,.slice V.Pg V.ng V.cg,.slice V.Pl V.nl V.cl,.slice V.Pr V.nr V.cr],.slice A n c] w fun e w'=>e= .returned (.int .i64 (bodyR E (l.map (·.1))))/\Below w.heap.size w w':=by
 have HB:=jq (zaB w (oE V E))
 have HX:=jq (zaC w (oE V E))
 have HP:=jq (rpath_any (h0.keep HB.out) (hr.keep HB.out) hF hN hln hn)
 have HPL:Hid ((pathR E (l.map (·.1))).2=0->(pathR E (l.map (·.1))).1.length=n+1):=fun h=>by have:=(path_ok h).2.2.2;rw[List.length_map,hln] at this;exact this
 have HPB:Hid ((pathR E (l.map (·.1))).2=0->∀t∈(pathR E (l.map (·.1))).1,Bd (.ok t) 300000):=fun h t ht=>path_bd hF (by rw[List.length_map,hln];exact hn) h ht
 have HBE:Hid (bodyR E (l.map (·.1))=if (pathR E (l.map (·.1))).2=0 then (if (zaM (lastS (pathR E (l.map (·.1))).1)).2.2=0 then 0 else 5) else (pathR E (l.map (·.1))).2):=rfl
 have HNB:Hid (n<=200):=hn
 generalize bodyR E (l.map (·.1))=rr at *
 generalize pathR E (l.map (·.1))=R at *
 clear h0 hr hF hN hln hn
 obtain⟨b0,b1,b2,b3,b4,b5,b6⟩:=cells7b HX.out
 go_enter Tryz.func24,Tryz.ntmps24
 go_wp2_with fail
 generalize w.alloc (oE V E)=w0 at *
 refine HP.out.mono ?_
 rintro e w1 ⟨h,hb⟩
 have HB:=jq (HB.out.trans (hb.mono HB.out.size))
 clear b0 b1 b2 b3 b4 b5 b6 hb HP HX
 obtain⟨L,r⟩:=R
 simp only at h HPL HPB HBE
 by_cases hr:r=0
 ·subst hr
  rw[if_pos rfl] at h
  obtain⟨v,rows,rfl,hrow,hm⟩:=h
  obtain⟨P,cp,rfl,_⟩:=hrow.form
  have hL:=HPL.out rfl
  obtain⟨N,hN⟩:∃N,rows.length=N:=⟨_,rfl⟩
  have hNn:N=n+1:=by rw[<- hN,<- hL,<- hm,List.length_map]
  rw[hN] at hrow ⊢
  obtain⟨a,ha⟩:∃a,L[n]? = some a:=⟨_,List.getElem?_eq_getElem (by omega)⟩
  have hla:lastS L=a:=by
   unfold lastS
   rw[List.getLast?_eq_getElem?,hL,Nat.add_sub_cancel,ha]
   rfl
  have hbd:=HPB.out rfl a (List.mem_of_getElem? ha) a rfl
  obtain⟨g,off,Pv,cv,Pc,cc,lc,rfl,hg,c0,c1,hrv,hrc,hlc⟩:=stk_atD hrow hm ha
  have HC:=jq (rclose_any (stk_isD hrv hrc hlc) (by omega) (by omega))
  have HBE:Hid (rr=if (zaM a).2.2=0 then 0 else 5):=by show _=_;rw[HBE.out,if_pos rfl,hla]
  have hw1:IntKind.i64.wrap ((N:Int) - 1)=(n:Int):=by rw[IntWalk.i64_in _ (by have:=HNB.out;omega)];omega
  have i1:(0:Int)<=(n:Int):=by omega
  have i2:(n:Int)<(N:Int):=by omega
  generalize a.vals.length=nv at *
  generalize a.cs.length=nc at *
  obtain⟨q,hq⟩:∃q,off+n*2=q:=⟨_,rfl⟩
  rw[hq] at c0 c1
  clear hrow hm hL hN hNn ha hla hbd hrv hrc hlc HPL HPB hg
  go_wp2_with fail
  refine HC.out.mono ?_
  rintro e w2 ⟨⟨P2,n2,c2,Q2,m2,d2,R2,k2,f2,rfl,_,_⟩,hb⟩
  have HB:=jq (HB.out.trans (hb.mono HB.out.size))
  clear hb HC c0 c1
  generalize zaM a=C at *
  obtain⟨C1,C2,ce⟩:=C
  by_cases he:ce=0
  ·subst he
   go_wp2_with fail
   exact bodyPost_ret (v:=.int .i64 0) (by simp[results,Tryz.results24,go_sem]) rfl ⟨by rw[HBE.out];rfl,(HB.out.alloc HB.out.size _).alloc (Nat.le_trans HB.out.size (by rw[zaD];omega)) _⟩
  ·have hz:(ce == 0)=false:=by simpa using he
   go_wp2_with fail
   exact bodyPost_ret (v:=.int .i64 5) (by simp[results,Tryz.results24,go_sem]) rfl ⟨by rw[HBE.out,if_neg he],(HB.out.alloc HB.out.size _).alloc (Nat.le_trans HB.out.size (by rw[zaD];omega)) _⟩
 ·have hz:(r == 0)=false:=by simpa using hr
  rw[if_neg hr] at h
  obtain rfl:=h
  go_wp2_with fail
  exact bodyPost_ret (v:=.int .i64 r) (by simp[results,Tryz.results24,go_sem]) rfl ⟨by rw[HBE.out,if_neg hr],HB.out⟩
end Go.Proofs.YtlappkflnlbfcaaGreatDoor.Chk
