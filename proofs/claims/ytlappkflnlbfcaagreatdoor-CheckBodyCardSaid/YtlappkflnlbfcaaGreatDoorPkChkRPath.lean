import Derived.Test.YtlappkflnlbfcaaGreatDoorPkChkTk8
import Derived.Test.YtlappkflnlbfcaaGreatDoorPkChkWk3
import Derived.Test.YtlappkflnlbfcaaGreatDoorPkChkWk6
import Derived.Test.YtlappkflnlbfcaaGreatDoorPkChkWk
import Derived.Test.YtlappkflnlbfcaaGreatDoorPkChkEnvC
import Derived.Test.YtlappkflnlbfcaaGreatDoorPkChkStepP
import Derived.Test.YtlappkflnlbfcaaGreatDoorPkChkCutR
import Derived.Test.YtlappkflnlbfcaaGreatDoorPkStabM
import Derived.Test.YtlappkflnlbfcaaGreatDoorPkStkROpen
namespace Go.Proofs.YtlappkflnlbfcaaGreatDoor.Chk
open Go renaming bodyPost_ret → jr
open Lib renaming hid → jq
open Go.RowKit Row9 Stk
set_option maxRecDepth 100000
set_option maxHeartbeats 8000000
set_option linter.unusedVariables false
theorem vals_any {w:World}{v:Value}{l:List Int}(h:Row elB w v l)(hn:l.length<=1):Calls Tryz.prog 81 #[v] w fun e w'=>e= .returned (.bool (Typ.sane l []))/\Below w.heap.size w w':=by
 obtain⟨P,c,rfl,hlc,hc9⟩:=id h.form
 have HK:=jq (Typ.rsane_any _ _ _ _ w (sl_of h) (Typ.Sl.nil w) (by omega) (by simp))
 have HP:Hid (l.length=1->∃g off,P=some ⟨g,off,none⟩):=jq fun h1=>by
  obtain⟨x,hx⟩:∃x,l[0]? = some x:=⟨l[0]'(by omega),List.getElem?_eq_getElem (by omega)⟩
  obtain⟨g,off,e,_⟩:=h.at_ hx
  exact⟨g,off,e⟩
 generalize Typ.sane l []=q at *
 generalize l.length=n at *
 clear h
 rcases (show n=0\/n=1 by omega) with rfl | rfl
 ·clear HP
  go_enter Tryz.func81,Tryz.ntmps81
  go_wp2_with fail
  refine HK.out.mono ?_
  rintro e w1 ⟨rfl,hb⟩
  go_wp2_with fail
  exact jr (v:=.bool q) (by simp[results,Tryz.results81,go_sem]) rfl ⟨rfl,hb⟩
 ·obtain ⟨g,off,rfl⟩:=HP.out rfl
  have hlc':(1:Int)<=(c:Int):=by omega
  go_enter Tryz.func81,Tryz.ntmps81
  go_wp2_with fail
  refine HK.out.mono ?_
  rintro e w1 ⟨rfl,hb⟩
  go_wp2_with fail
  exact jr (v:=.bool q) (by simp[results,Tryz.results81,go_sem]) rfl ⟨rfl,hb⟩
theorem all_at {α:Type}{l:List α}{i:Nat}{x:α}(f:α->Bool)(h:l[i]? = some x):(l.drop i).all f=(f x && (l.drop (i+1)).all f):=by
 obtain⟨hi,rfl⟩:=List.getElem?_eq_some_iff.1 h
 rw[List.drop_eq_getElem_cons hi,List.all_cons]
theorem all_end {α:Type}{l:List α}{i:Nat}(f:α->Bool)(h:l.length<=i):(l.drop i).all f=true:=by rw[List.drop_of_length_le h];rfl
theorem rSane_any {w:World}{V:EV}{E:EnvP}(h:EnvOk elGD w V E)(hB:FnBd E)(hN:E.globs.length<=1000000/\E.locals.length<=1000000/\E.types.length<=1000000):Calls Tryz.prog 49 #[(.agg #[.slice V.Pt V.nt V.ct,.slice V.Pf V.nf V.cf,.int .i64 E.tables,.int .i64 E.mems,.slice V.Pg V.ng V.cg,.slice V.Pl V.nl V.cl,.slice V.Pr V.nr V.cr])] w fun e w'=>e= .returned (.bool (!decide (1<E.results.length) && Typ.sane E.results [] && E.types.all (fun p=>Typ.sane p.1 p.2) && E.globs.all (fun p=>Typ.sane [p.1] []) && E.locals.all (fun x=>Typ.sane [x] [])))/\Below w.heap.size w w':=by
 have HBN:=jq (zaB w (oE V E))
 have HX:=jq (zaC w (oE V E))
 have HE:=jq (h.keep HBN.out)
 have HNN:=jq hN
 have HFB:=jq hB
 obtain⟨ts,hts,hmt⟩:=HE.out.t
 have HTS:=jq hts
 have HMT:=jq hmt
 have HLT:Hid (ts.length=V.nt):=jq (row_len hts)
 have HLG:Hid (E.globs.length=V.ng):=jq (row_len HE.out.g)
 have HLL:Hid (E.locals.length=V.nl):=jq (row_len HE.out.l)
 have HLR:Hid (E.results.length=V.nr):=jq (row_len HE.out.r)
 have e2:E.types.all (fun p=>Typ.sane p.1 p.2)=ts.all (fun p=>Typ.sane p.1.1 p.1.2):=by rw[<- hmt,List.all_map];rfl
 rw[e2,HLR.out]
 obtain⟨q2,hq2⟩:∃q,ts.all (fun p=>Typ.sane p.1.1 p.1.2)=q:=⟨_,rfl⟩
 obtain⟨q3,hq3⟩:∃q,E.globs.all (fun p=>Typ.sane [p.1] [])=q:=⟨_,rfl⟩
 obtain⟨q4,hq4⟩:∃q,E.locals.all (fun x=>Typ.sane [x] [])=q:=⟨_,rfl⟩
 rw[hq2,hq3,hq4]
 have HQ2:=jq hq2
 have HQ3:=jq hq3
 have HQ4:=jq hq4
 clear h hN hB hts hmt e2 hq2 hq3 hq4
 obtain⟨a0,a1,a2,a3,a4,a5,a6⟩:=zaK HX.out
 have al:=jl HX.out
 by_cases hr:1<V.nr
 ·have t1:decide ((1:Int)<(V.nr:Int))=true:=decide_eq_true (by omega)
  have t1':decide (1<V.nr)=true:=decide_eq_true hr
  have e:(!decide (1<V.nr) && Typ.sane E.results [] && q2 && q3 && q4)=false:=by rw[t1'];rfl
  rw[e]
  clear e hr
  go_enter Tryz.func49,Tryz.ntmps49
  go_wp2_with fail
  exact jr (v:=.bool false) (by simp[results,Tryz.results49,go_sem]) rfl ⟨rfl,HBN.out⟩
 have t1:decide ((1:Int)<(V.nr:Int))=false:=decide_eq_false (by omega)
 have t1':decide (1<V.nr)=false:=decide_eq_false hr
 have HK:=jq (vals_any HE.out.r (by rw[HLR.out];omega))
 rw[t1']
 generalize Typ.sane E.results []=q1 at *
 obtain⟨X,hX⟩:∃X,(!false && q1 && q2 && q3 && q4)=X:=⟨_,rfl⟩
 rw[hX]
 have HXX:=jq hX
 clear hr hX
 go_enter Tryz.func49,Tryz.ntmps49
 go_wp2_with fail
 clear a0 a1 a2 a3 a4 a5 a6 al
 generalize w.alloc (oE V E)=u0 at *
 obtain⟨y,hy⟩:∃y,w.heap.size=y:=⟨_,rfl⟩
 rw[hy] at HX
 simp only[hy]
 have HBY:=jq hy
 clear hy
 refine HK.out.mono ?_
 rintro e w1 ⟨rfl,hb⟩
 have HB:=jq hb
 clear hb
 cases q1 with
 | false=>
  go_wp2_with fail
  obtain rfl:X=false:=by rw[<- HXX.out];rfl
  exact jr (v:=.bool false) (by simp[results,Tryz.results49,go_sem]) rfl ⟨rfl,HBN.out.trans (HB.out.mono HBN.out.size)⟩
 | true=>
  go_wp2_with fail
  go_loopw [3] (fun i' wr=>∃ (i:Nat),i'= .int .i64 (i:Int)/\i<=V.nt/\Below u0.heap.size u0 wr/\q2=(ts.drop i).all (fun p=>Typ.sane p.1.1 p.1.2)) (fun i' _=>V.nt - (intOf i').toNat)
  case atStart=>exact ⟨0,by go_num,Nat.zero_le _,HB.out,HQ2.out.symm⟩
  case round=>
   obtain⟨i,rfl,hi,hbw,hal⟩:=hrel
   clear HB
   have HB:=jq hbw
   have HAL:=jq hal
   clear hbw hal
   obtain⟨a0,a1,a2,a3,a4,a5,a6⟩:=zaK (blk HX.out HB.out)
   have al:=jl (blk HX.out HB.out)
   by_cases hlt:i<V.nt
   ·obtain ⟨p,hp⟩:∃p,ts[i]? = some p:=⟨ts[i]'(by rw[HLT.out];exact hlt),List.getElem?_eq_getElem _⟩
    obtain⟨g2,off2,r2,P1,n1,c1,Q1,m1,d1,hPt,hgl,hr2,e0,e1,hr1,hrr⟩:=row_fn (HTS.out.keep HB.out) hp
    have hbd:=HFB.out.1 p.1 (by rw[<- HMT.out];exact List.mem_map_of_mem (List.mem_of_getElem? hp))
    have HK:=jq (Typ.rsane_any _ _ _ _ _ (sl_of hr1) (sl_of hrr) (by omega) (by omega))
    have hst:=all_at (fun p:FnV=>Typ.sane p.1.1 p.1.2) hp
    rw[<- HAL.out] at hst
    have HST:=jq hst
    rw[hPt] at a0
    generalize Typ.sane p.1.1 p.1.2=b at *
    clear hp hr1 hrr hst hPt hbd
    have i1:(0:Int)<=(i:Int):=by omega
    have i2:(i:Int)<(V.nt:Int):=by omega
    have hw1:IntKind.i64.wrap ((i:Int)+1)=(i:Int)+1:=IntWalk.i64_in _ (by have:=HNN.out;have:=HLT.out;have:=HLG.out;have:=HLL.out;have hm:=congrArg List.length HMT.out;rw[List.length_map] at hm;omega)
    go_wp2_with fail
    clear a0 a1 a2 a3 a4 a5 a6 al e0 e1 hgl
    refine HK.out.mono ?_
    rintro e w9 ⟨rfl,hb⟩
    have HB:=jq (HB.out.trans (hb.mono HB.out.size))
    clear hb
    cases b with
    | false=>
     go_wp2_with fail
     have hq:q2=false:=by rw[HST.out];rfl
     obtain rfl:X=false:=by rw[<- HXX.out];rw[hq];rfl
     exact jr (v:=.bool false) (by simp[results,Tryz.results49,go_sem]) rfl ⟨rfl,HBN.out.trans (HB.out.mono HBN.out.size)⟩
    | true=>
     go_wp2_with fail
     go_roundw
     case rel=>exact ⟨i+1,by go_num,hlt,HB.out,by rw[HST.out];rfl⟩
     case measure=>simp[intOf];omega
   ·obtain rfl:i=V.nt:=by omega
    have hq:q2=true:=by rw[HAL.out];exact all_end _ (by first | exact Nat.le_of_eq HLT.out | exact Nat.le_of_eq HLG.out | exact Nat.le_of_eq HLL.out)
    have HQQ:=jq hq
    clear hq hlt hi HAL
    go_wp2_with fail
    clear a0 a1 a2 a3 a4 a5 a6 al
    rw[HQQ.out] at HXX
    clear HQQ
    go_loopw [4] (fun i' wr=>∃ (i:Nat),i'= .int .i64 (i:Int)/\i<=V.ng/\Below u0.heap.size u0 wr/\q3=(E.globs.drop i).all (fun p=>Typ.sane [p.1] [])) (fun i' _=>V.ng - (intOf i').toNat)
    case atStart=>exact ⟨0,by go_num,Nat.zero_le _,HB.out,HQ3.out.symm⟩
    case round=>
     obtain⟨i,rfl,hi,hbw,hal⟩:=hrel
     clear HB
     have HB:=jq hbw
     have HAL:=jq hal
     clear hbw hal
     obtain⟨a0,a1,a2,a3,a4,a5,a6⟩:=zaK (blk HX.out HB.out)
     have al:=jl (blk HX.out HB.out)
     by_cases hlt:i<V.ng
     ·obtain ⟨p,hp⟩:∃p,E.globs[i]? = some p:=⟨E.globs[i]'(by rw[HLG.out];exact hlt),List.getElem?_eq_getElem _⟩
      obtain⟨g2,off2,r2,hPt,hr2,e0,e1,hrg⟩:=row_glob (HE.out.g.keep HB.out) hp
      have hst:=all_at (fun p:Int×Bool=>Typ.sane [p.1] []) hp
      rw[<- HAL.out] at hst
      have HST:=jq hst
      have HRG:=jq hrg
      rw[hPt] at a4
      obtain⟨pv,pm⟩:=p
      simp only at e0 e1
      have HRG:Hid (0<=pv/\pv<256):=HRG.out
      have HST:Hid (_=(Typ.sane [pv] [] && _)):=HST.out
      clear hp hst hPt hrg
      have i1:(0:Int)<=(i:Int):=by omega
      have i2:(i:Int)<(V.ng:Int):=by omega
      have hw1:IntKind.i64.wrap ((i:Int)+1)=(i:Int)+1:=IntWalk.i64_in _ (by have:=HNN.out;have:=HLT.out;have:=HLG.out;have:=HLL.out;have hm:=congrArg List.length HMT.out;rw[List.length_map] at hm;omega)
      go_wp2_with fail
      clear a0 a1 a2 a3 a4 a5 a6 al e0 e1
      have HNW:=jq (zaB wr (.cells #[.int .u8 pv] 5))
      have HK:=jq (vals_any (zaL wr pv HRG.out) (by simp))
      have HB:=jq (HB.out.trans (HNW.out.mono HB.out.size))
      generalize Typ.sane [pv] []=b at *
      clear HNW
      refine HK.out.mono ?_
      rintro e w9 ⟨rfl,hb⟩
      have HB:=jq (HB.out.trans (hb.mono HB.out.size))
      clear hb
      cases b with
      | false=>
       go_wp2_with fail
       have hq:q3=false:=by rw[HST.out];rfl
       obtain rfl:X=false:=by rw[<- HXX.out];rw[hq];rfl
       exact jr (v:=.bool false) (by simp[results,Tryz.results49,go_sem]) rfl ⟨rfl,HBN.out.trans (HB.out.mono HBN.out.size)⟩
      | true=>
       go_wp2_with fail
       go_roundw
       case rel=>exact ⟨i+1,by go_num,hlt,HB.out,by rw[HST.out];rfl⟩
       case measure=>simp[intOf];omega
     ·obtain rfl:i=V.ng:=by omega
      have hq:q3=true:=by rw[HAL.out];exact all_end _ (by first | exact Nat.le_of_eq HLT.out | exact Nat.le_of_eq HLG.out | exact Nat.le_of_eq HLL.out)
      have HQQ:=jq hq
      clear hq hlt hi HAL
      go_wp2_with fail
      clear a0 a1 a2 a3 a4 a5 a6 al
      rw[HQQ.out] at HXX
      clear HQQ
      go_loopw [5] (fun i' wr=>∃ (i:Nat),i'= .int .i64 (i:Int)/\i<=V.nl/\Below u0.heap.size u0 wr/\q4=(E.locals.drop i).all (fun x=>Typ.sane [x] [])) (fun i' _=>V.nl - (intOf i').toNat)
      case atStart=>exact ⟨0,by go_num,Nat.zero_le _,HB.out,HQ4.out.symm⟩
      case round=>
       obtain⟨i,rfl,hi,hbw,hal⟩:=hrel
       clear HB
       have HB:=jq hbw
       have HAL:=jq hal
       clear hbw hal
       obtain⟨a0,a1,a2,a3,a4,a5,a6⟩:=zaK (blk HX.out HB.out)
       have al:=jl (blk HX.out HB.out)
       by_cases hlt:i<V.nl
       ·obtain ⟨pv,hp⟩:∃p,E.locals[i]? = some p:=⟨E.locals[i]'(by rw[HLL.out];exact hlt),List.getElem?_eq_getElem _⟩
        obtain⟨g2,off2,r2,hPt,hr2,e0,hrg⟩:=row_byte (HE.out.l.keep HB.out) hp
        have hst:=all_at (fun x:Int=>Typ.sane [x] []) hp
        rw[<- HAL.out] at hst
        have HST:=jq hst
        have HRG:=jq hrg
        rw[hPt] at a5
        clear hp hst hPt hrg
        have i1:(0:Int)<=(i:Int):=by omega
        have i2:(i:Int)<(V.nl:Int):=by omega
        have hw1:IntKind.i64.wrap ((i:Int)+1)=(i:Int)+1:=IntWalk.i64_in _ (by have:=HNN.out;have:=HLT.out;have:=HLG.out;have:=HLL.out;have hm:=congrArg List.length HMT.out;rw[List.length_map] at hm;omega)
        go_wp2_with fail
        clear a0 a1 a2 a3 a4 a5 a6 al e0
        have HNW:=jq (zaB wr (.cells #[.int .u8 pv] 5))
        have HK:=jq (vals_any (zaL wr pv HRG.out) (by simp))
        have HB:=jq (HB.out.trans (HNW.out.mono HB.out.size))
        generalize Typ.sane [pv] []=b at *
        clear HNW
        refine HK.out.mono ?_
        rintro e w9 ⟨rfl,hb⟩
        have HB:=jq (HB.out.trans (hb.mono HB.out.size))
        clear hb
        cases b with
        | false=>
         go_wp2_with fail
         have hq:q4=false:=by rw[HST.out];rfl
         obtain rfl:X=false:=by rw[<- HXX.out];rw[hq];rfl
         exact jr (v:=.bool false) (by simp[results,Tryz.results49,go_sem]) rfl ⟨rfl,HBN.out.trans (HB.out.mono HBN.out.size)⟩
        | true=>
         go_wp2_with fail
         go_roundw
         case rel=>exact ⟨i+1,by go_num,hlt,HB.out,by rw[HST.out];rfl⟩
         case measure=>simp[intOf];omega
       ·obtain rfl:i=V.nl:=by omega
        have hq:q4=true:=by rw[HAL.out];exact all_end _ (by first | exact Nat.le_of_eq HLT.out | exact Nat.le_of_eq HLG.out | exact Nat.le_of_eq HLL.out)
        have HQQ:=jq hq
        clear hq hlt hi HAL
        go_wp2_with fail
        clear a0 a1 a2 a3 a4 a5 a6 al
        rw[HQQ.out] at HXX
        clear HQQ
        obtain rfl:X=true:=by rw[<- HXX.out];rfl
        exact jr (v:=.bool true) (by simp[results,Tryz.results49,go_sem]) rfl ⟨rfl,HBN.out.trans (HB.out.mono HBN.out.size)⟩
theorem isv_same (x:Int):Typ.isV x=isV x:=by
 unfold Typ.isV isV
 by_cases h1:x=127
 ·subst h1;rfl
 ·by_cases h2:x=126
  ·subst h2;rfl
  ·rw[decide_eq_false (by omega)]
   simp[h1,h2]
theorem tsane_one (x:Int):Typ.sane [x] []=isV x:=by
 show (bif Typ.allV [x] then Typ.allV [] else false)=isV x
 rw[Typ.allV_nil,show Typ.allV [x]=(Typ.isV x && true) from rfl,isv_same]
 cases isV x <;> rfl
theorem tsane_res (l:List Int):(!decide (1<l.length) && Typ.sane l [])=Typ.sane [] l:=by
 unfold Typ.sane
 by_cases h:1<l.length
 ·rw[decide_eq_true h,decide_eq_false (show ¬ l.length<=1 by omega)]
  rfl
 ·rw[decide_eq_false h,decide_eq_true (show l.length<=1 by omega),decide_eq_true (show l.length<=16 by omega)]
  show (true && (bif Typ.allV l then Typ.allV [] else false))=(bif Typ.allV [] then Typ.allV l else false)
  rw[Typ.allV_nil]
  cases Typ.allV l <;> rfl
theorem rsaneE_is (E:EnvP):(!decide (1<E.results.length) && Typ.sane E.results [] && E.types.all (fun p=>Typ.sane p.1 p.2) && E.globs.all (fun p=>Typ.sane [p.1] []) && E.locals.all (fun x=>Typ.sane [x] []))=saneE E:=by
 rw[tsane_res]
 unfold saneE
 simp only[tsane_one]
 cases Typ.sane [] E.results <;> cases E.types.all (fun p=>Typ.sane p.1 p.2) <;> cases E.globs.all (fun p=>isV p.1) <;> cases h:E.locals.all isV <;> first | rfl | (simp only[Bool.true_and,Bool.false_and];exact h)
def elSD:El StV where
 e:=30
 s:=2
 z:=.agg #[.slice none 0 0,.slice none 0 0]
 bytes:=48
 enc:=fun p=>[p.2.1,p.2.2]
 ok:=fun w p=>StIs elD w (.agg #[p.2.1,p.2.2]) p.1
 pos:=by decide
 len:=fun _=>rfl
 info:=by kernel_rfl
 zs:=rfl
 stay:=fun h hb=>h.keep hb
 one:=fun h u hu=>by
  obtain⟨a,c,l,e,h1,h2,_⟩:=h
  simp only[Value.agg.injEq] at e
  have e:=congrArg Array.toList e
  simp only[List.cons.injEq,and_true] at e
  obtain⟨e1,e2⟩:=e
  simp only[List.mem_cons,List.not_mem_nil,or_false] at hu
  rcases hu with rfl | rfl
  ·rw[e1];exact row_oneCell h1
  ·rw[e2];exact row_oneCell h2
theorem own_lit1 {α:Type}(T:El α)(w:World)(p:α)(cs:Array Value)(hc:cs.toList=T.enc p):Own T (w.alloc (.cells cs T.e)) w.heap.size (.slice (some ⟨w.heap.size,0,none⟩) 1 1) [p]:=by
 have hl:cs.size=1*T.s:=by rw[<- Array.length_toList,hc,T.len,Nat.one_mul]
 refine⟨by simp[T.len],.inr ⟨_,_,cs,rfl,Nat.le_refl _,zaC w _,Nat.le_refl _,by simp[maxLen],hl,?_⟩⟩
 rw[hc]
 simp only[List.length_cons,List.length_nil,Nat.zero_add,Nat.one_mul]
 rw[List.take_of_length_le (by rw[T.len];exact Nat.le_refl _)]
 simp
theorem nob2 {w:World}{y:Nat}{P Q:Option Addr}{n c m d:Nat}{t:TypeId}(h:w.heap[y]? = some (.cells #[.slice P n c,.slice Q m d] t (0,0))):NoBB w y:=
 nobb_of h fun u hu=>by simp only[List.mem_cons,List.not_mem_nil,or_false] at hu;rcases hu with rfl | rfl <;> exact ⟨fun x=>by simp,fun b=>by simp⟩
theorem stis_grown {w w':World}{v:Value}{rows:List StV}{b:Nat}(h:w.grownBy w' v.ownBlock)(ho:Own elSD w b v rows)(hp:OwnAll NoP w v){u:Value}{s:Stk}(hs:StIs elD w u s):StIs elD w' u s:=by
 cases hv:v.ownBlock with
 | none=>exact hs.keep ⟨h.os,h.tape,h.output,h.size,fun k hk=>h.block k hk (by rw[hv];simp)⟩
 | some g=>
  obtain⟨cur,hc⟩:=own_type ho hv
  exact StIs.apart (e:=76) (hi:=infoD) hs (hp.nobb hv hc) ⟨h.os,h.tape,h.output,h.size,fun k hk hne=>h.block k hk (by rw[hv];simpa using hne)⟩
structure RJ (w:World) (y:Nat) (S:Option Addr) (n c:Nat) (t:List Stk):Prop where
 rows:∃rows:List StV,rows.map (·.1)=t/\Own elSD w (y+1) (.slice S n c) rows/\(∀p∈rows,elSD.ok w p)
 all:OwnAll NoP w (.slice S n c)
theorem RJ.keep {w w':World}{y:Nat}{S:Option Addr}{n c:Nat}{t:List Stk}(h:RJ w y S n c t)(hb:Below w.heap.size w w'):RJ w' y S n c t:=by
 obtain⟨⟨rows,h1,h2,h3⟩,h4⟩:=h
 exact⟨⟨rows,h1,own_keep h2 hb,fun p hp=>(h3 p hp).keep hb⟩,h4.same (fun g hg=>hb.block g (World.ownsRow.lt h2 g hg).2)⟩
theorem RJ.but {w w':World}{y:Nat}{S:Option Addr}{n c:Nat}{t:List Stk}(h:RJ w y S n c t)(hy:NoBB w y)(hb:But y w w'):RJ w' y S n c t:=by
 obtain⟨⟨rows,h1,h2,h3⟩,h4⟩:=h
 have hg:∀g,(Value.slice S n c).ownBlock=some g->w'.heap[g]? = w.heap[g]?:=fun g hg=>hb.block g (World.ownsRow.lt h2 g hg).2 (by have:=(World.ownsRow.lt h2 g hg).1;omega)
 exact⟨⟨rows,h1,own_stay h2 hg,fun p hp=>StIs.apart (e:=76) (hi:=infoD) (h3 p hp) hy hb⟩,h4.same hg⟩
theorem RJ.len {w:World}{y:Nat}{S:Option Addr}{n c:Nat}{t:List Stk}(h:RJ w y S n c t):t.length=n:=by
 obtain⟨⟨rows,h1,h2,h3⟩,h4⟩:=h
 obtain⟨P,c',e⟩:=h2.form
 injection e with _ e
 rw[e,<- h1,List.length_map]
def RPathEnds (w:World)(R:List Stk×Int)(e:Ending)(w':World):Prop:=
 (if R.2=0 then ∃v rows,e= .returned (.tuple #[v,.int .i64 0])/\Row elSD w' v rows/\rows.map (·.1)=R.1 else e= .returned (.tuple #[.slice none 0 0,.int .i64 R.2]))/\Below w.heap.size w w'
theorem pathGo_ok {E:EnvP}{i:Ins.Ins}{s t:Stk}{l:List Ins.Ins}(h:instrR E i s= .ok t):pathGo E (i :: l) s=(s :: (pathGo E l t).1,(pathGo E l t).2):=by
 simp only[pathGo,h]
theorem pathGo_er {E:EnvP}{i:Ins.Ins}{s:Stk}{e:Int}{l:List Ins.Ins}(h:instrR E i s= .er e):pathGo E (i :: l) s=([s],e):=by
 simp only[pathGo,h]
theorem rpath_any {w:World}{V:EV}{E:EnvP}{A:Option Addr}{n c:Nat}{l:List (Ins.Ins×Value)}(h0:EnvOk elGD w V E)(hr:Ins.InRow w (.slice A n c) l)(hF:FnBd E)(hN:E.globs.length<=1000000/\E.locals.length<=1000000/\E.types.length<=1000000)(hln:l.length=n)(hn:n<=200):
  Calls Tryz.prog 22 #[.agg #[.slice V.Pt V.nt V.ct,.slice V.Pf V.nf V.cf,.int .i64 E.tables,.int .i64 E.mems,.slice V.Pg V.ng V.cg,.slice V.Pl V.nl V.cl,.slice V.Pr V.nr V.cr],.slice A n c] w (RPathEnds w (pathR E (l.map (·.1)))):=by
 obtain⟨⟨A',c',e',hlc,hc9,hpl⟩,_⟩:=id hr
 obtain⟨g0,off0,hA0⟩:∃g off,n≠0->A=some ⟨g,off,none⟩:=by
  by_cases hl:l = []
  ·exact ⟨0,0,fun h=>absurd (by rw[<- hln,hl];rfl) h⟩
  ·obtain ⟨g,off,e,_⟩:=hpl hl
   injection e' with e1 e2 e3
   exact⟨g,off,fun _=>e1.trans e⟩
 have HB:=jq (zaB w (oE V E))
 have HX:=jq (zaC w (oE V E))
 have HOP:=jq (opsL_P l)
 have HM:=jq (Bod.rmatches_any hln (by omega) hA0 (hr.keep HB.out))
 rw[HOP.out] at HM
 have HE:=jq h0
 have HRI:=jq hr
 have HF:=jq hF
 have HNN:=jq hN
 have HLN:=jq hln
 have HNB:Hid (n<=200):=hn
 have HPR:Hid (pathR E (l.map (·.1))=if Bod.dM (opsP (l.map (·.1)))=none then ([],3) else if saneE E=false then ([],1) else pathGo E (l.map (·.1)) (s0 E)):=rfl
 generalize hpr:pathR E (l.map (·.1))=R at *
 clear h0 hr hF hN hln hn hpr hA0 hlc hc9 hpl e'
 go_enter Tryz.func22,Tryz.ntmps22
 go_wp2_with fail
 generalize w.alloc (oE V E)=w0 at *
 obtain⟨x,hx⟩:∃x,w.heap.size=x:=⟨_,rfl⟩
 rw[hx] at HX
 simp only[hx]
 refine HM.out.mono ?_
 rintro e w1 ⟨hres,hb⟩
 have HX:=jq (blk HX.out hb)
 have HB:=jq (HB.out.trans (hb.mono HB.out.size))
 clear hb HM
 cases hd:Bod.dM (opsP (l.map (·.1))) with
 | none=>
  rw[hd] at hres
  obtain rfl:=hres
  rw[hd,if_pos rfl] at HPR
  clear hd
  go_wp2_with fail
  exact jr (v:=.tuple #[.slice none 0 0,.int .i64 3]) (by simp[results,Tryz.results22,go_sem]) rfl ⟨by rw[HPR.out];rfl,HB.out⟩
 | some ms=>
  rw[hd] at hres
  obtain⟨gM,rfl,_⟩:=hres
  rw[hd,if_neg (by simp)] at HPR
  clear hd
  generalize ms.length=nM at *
  obtain⟨b0,b1,b2,b3,b4,b5,b6⟩:=cells7b HX.out
  have xl:x<w1.heap.size:=jl HX.out
  go_wp2_with fail
  refine(rSane_any (HE.out.keep HB.out) HF.out HNN.out).mono ?_
  rintro e w2 ⟨rfl,hb⟩
  rw[rsaneE_is]
  have HX:=jq (blk HX.out hb)
  have HB:=jq (HB.out.trans (hb.mono HB.out.size))
  clear hb b0 b1 b2 b3 b4 b5 b6 xl
  cases hs:saneE E with
  | false=>
   rw[hs,if_pos rfl] at HPR
   clear hs
   go_wp2_with fail
   exact jr (v:=.tuple #[.slice none 0 0,.int .i64 1]) (by simp[results,Tryz.results22,go_sem]) rfl ⟨by rw[HPR.out];rfl,HB.out⟩
  | true=>
   rw[hs,if_neg (by simp)] at HPR
   have HST:Hid (openS ⟨[],[]⟩ 2 E.results=(s0 E,0)):=by
    have h:=start_ok hs
    obtain⟨t,h1,h2⟩:=bind_ok h
    injection h1 with h1
    subst h1
    obtain⟨h3,h4⟩:=ofP_ok h2
    exact Prod.ext h4 h3
   have HSN:=jq (s0_sane hs)
   clear hs
   obtain⟨b0,b1,b2,b3,b4,b5,b6⟩:=cells7b HX.out
   have xl:x<w2.heap.size:=jl HX.out
   go_wp2_with fail
   clear b0 b1 b2 b3 b4 b5 b6 xl
   refine(ropen_any (s:=⟨[],[]⟩) (StIs.none_ elD w2) (HE.out.keep HB.out).r (show w64 2 by unfold w64;omega) (Nat.zero_le _) (Nat.zero_le _) (by have:=HF.out.2;omega)).mono ?_
   rw[HST.out]
   have hxy0:x<w2.heap.size:=jl HX.out
   rintro e w3 ⟨⟨P,np,cp,Q,m,d,rfl,hst⟩,hb⟩
   have HT:=jq (hb.trans ((zaB w3 (.cells #[.slice P np cp,.slice Q m d] 30)).mono hb.size))
   have HX:=jq (blk HX.out HT.out)
   have HB:=jq (HB.out.trans (HT.out.mono HB.out.size))
   have HS:=jq (hst.keep (zaB w3 (.cells #[.slice P np cp,.slice Q m d] 30)))
   have HY:=jq (zaC w3 (.cells #[.slice P np cp,.slice Q m d] 30))
   have hxy:x<w3.heap.size:=Nat.lt_of_lt_of_le hxy0 hb.size
   clear hb hxy0 HT hst HST
   obtain⟨y0,y1⟩:=zaH HY.out
   have yl:=jl HY.out
   go_wp2_with fail
   clear y0 y1 yl
   have HT:=jq (zaB (w3.alloc (.cells #[.slice P np cp,.slice Q m d] 30)) (.cells #[.slice P np cp,.slice Q m d] 30))
   have HL1:=own_lit1 elSD (w3.alloc (.cells #[.slice P np cp,.slice Q m d] 30)) (s0 E,(.slice P np cp,.slice Q m d)) #[.slice P np cp,.slice Q m d] rfl
   rw[zaD] at HL1
   have HAL:OwnAll NoP ((w3.alloc (.cells #[.slice P np cp,.slice Q m d] 30)).alloc (.cells #[.slice P np cp,.slice Q m d] 30)) (.slice (some ⟨w3.heap.size+1,0,none⟩) 1 1):=by
    intro g cur e fr hg hc u hu
    obtain rfl:=Option.some.inj (show some (w3.heap.size+1)=some g from hg)
    have h:=zaC (w3.alloc (.cells #[.slice P np cp,.slice Q m d] 30)) (.cells #[.slice P np cp,.slice Q m d] 30)
    rw[zaD] at h
    rw[h] at hc
    injection hc with hc
    injection hc with hc
    subst hc
    simp only[List.mem_cons,List.not_mem_nil,or_false] at hu
    rcases hu with rfl | rfl <;> exact nop_slice _ _ _
   have HRJ:Hid (RJ ((w3.alloc (.cells #[.slice P np cp,.slice Q m d] 30)).alloc (.cells #[.slice P np cp,.slice Q m d] 30)) w3.heap.size (some ⟨w3.heap.size+1,0,none⟩) 1 1 ([] ++ [s0 E])):=jq ⟨⟨[(s0 E,(.slice P np cp,.slice Q m d))],rfl,HL1,fun p hp=>by rw[List.mem_singleton.1 hp];exact HS.out.keep HT.out⟩,HAL⟩
   have HX:=jq (blk HX.out HT.out)
   have HY:=jq (blk HY.out HT.out)
   have HS:=jq (HS.out.keep HT.out)
   have HB:=jq (HB.out.trans (HT.out.mono HB.out.size))
   clear HL1 HAL HT
   generalize (w3.alloc (.cells #[.slice P np cp,.slice Q m d] 30)).alloc (.cells #[.slice P np cp,.slice Q m d] 30)=w4 at *
   obtain⟨y,hy⟩:∃y,w3.heap.size=y:=⟨_,rfl⟩
   rw[hy] at HY HRJ hxy
   simp only[hy]
   clear hy
   have HXY:=jq hxy
   clear hxy
   go_loopw [10,11] (fun v i' wr=>∃ (k:Nat) (s:Stk) (t:List Stk) (S:Option Addr) (c1:Nat) (P:Option Addr) (np cp:Nat) (Q:Option Addr) (m d:Nat),i'= .int .i64 (k:Int)/\k<=n/\v= .slice S (k+1) c1/\t.length=k/\Below w.heap.size w wr/\wr.heap[x]? = some (.cells #[.slice V.Pt V.nt V.ct,.slice V.Pf V.nf V.cf,.int .i64 E.tables,.int .i64 E.mems,.slice V.Pg V.ng V.cg,.slice V.Pl V.nl V.cl,.slice V.Pr V.nr V.cr] 27 (0,0))/\wr.heap[y]? = some (.cells #[.slice P np cp,.slice Q m d] 30 (0,0))/\StIs elD wr (.agg #[.slice P np cp,.slice Q m d]) s/\RJ wr y S (k+1) c1 (t ++ [s])/\Bd (.ok s) (1+k*1001)/\sane s=true/\R=(t ++ (pathGo E ((l.map (·.1)).drop k) s).1,(pathGo E ((l.map (·.1)).drop k) s).2)) (fun _ i' _=>n - (intOf i').toNat)
   case atStart=>exact ⟨0,s0 E,[],_,_,P,np,cp,Q,m,d,by go_num,Nat.zero_le _,rfl,rfl,HB.out,HX.out,HY.out,HS.out,HRJ.out,(s0_bd E).mono (by omega),HSN.out,by rw[HPR.out];simp⟩
   case round=>
    obtain⟨k,s,t,S,c1,P,np,cp,Q,m,d,rfl,hi,rfl,htl,hbw,hx0,hy0,hst,hrj,hbd,hsn,hpr⟩:=hrel
    have HX:=jq hx0
    have HY:=jq hy0
    have HS:=jq hst
    have HRJ:=jq hrj
    have HBD:=jq hbd
    have HSN:=jq hsn
    have HBW:=jq hbw
    have HTR:=jq hpr
    have HTL:=jq htl
    have HSZ:Hid (s.vals.length<=290000/\s.cs.length<=290000):=by have h:=hbd s rfl;have:=HNB.out;exact⟨by omega,by omega⟩
    clear hx0 hy0 hst hrj hbd hsn hbw hpr htl
    by_cases hlt:k<n
    ·obtain ⟨p,hp⟩:∃p,l[k]? = some p:=⟨_,List.getElem?_eq_getElem (by rw[HLN.out];exact hlt)⟩
     obtain⟨gI,off,rfl,hic,hio⟩:=(HRI.out.keep HBW.out).at_ hp
     have HLP:Hid ((l.map (·.1))[k]? = some p.1):=jq (by rw[List.getElem?_map,hp];rfl)
     have HLB:=jq hio.1
     obtain⟨PL,cL,hlab,_⟩:=id hio.1
     clear hp hio
     obtain⟨⟨op,iA,iB,iK,iL⟩,lab⟩:=p
     simp only at hlab
     obtain⟨nL,hnL⟩:∃nL,iL.length=nL:=⟨_,rfl⟩
     rw[hnL] at hlab
     subst hlab
     clear hnL
     obtain⟨e0,e1,e2,e3,e4⟩:=hic
     simp only at e0 e1 e2 e3 e4 HLP HLB
     obtain⟨q2,hq2⟩:∃q,off+k*5=q:=⟨_,rfl⟩
     rw[hq2] at e0 e1 e2 e3 e4
     have hgI:gI<wr.heap.size:=World.block_lt_of_cell? wr ⟨gI,q2,none⟩ e0
     have i1:(0:Int)<=(k:Int):=by omega
     have i2:(k:Int)<(n:Int):=by omega
     have i3:decide ((k:Int)<(n:Int))=true:=decide_eq_true i2
     obtain⟨R2,hR2⟩:∃R,stOf (stepR E ⟨op,iA,iB,iK,iL⟩ s)=R:=⟨_,rfl⟩
     obtain⟨g,hg⟩:∃g,codeOf (stepR E ⟨op,iA,iB,iK,iL⟩ s)=g:=⟨_,rfl⟩
     have HR2:=jq hR2
     have HG:=jq hg
     clear hR2 hg
     go_wp2_with fail
     refine Stab.region_mix 11 58 9 _ _ _ [.is (.agg #[.slice V.Pt V.nt V.ct,.slice V.Pf V.nf V.cf,.int .i64 E.tables,.int .i64 E.mems,.slice V.Pg V.ng V.cg,.slice V.Pl V.nl V.cl,.slice V.Pr V.nr V.cr]),.is (.agg #[.slice P np cp,.slice Q m d]),.is (.slice (some ⟨gI,off,none⟩) n c),.is (.int .i64 (k:Int)),.is (.pointer (some ⟨gI,q2,none⟩)),.is (.agg #[.int .i64 op,.int .i64 iA,.int .i64 iB,.int .u64 iK,.slice PL nL cL]),.fits (fun v W=>∃Pb nb cb Qb mb db,v= .tuple #[.agg #[.slice Pb nb cb,.slice Qb mb db],.int .i64 g]/\StIs elD W (.agg #[.slice Pb nb cb,.slice Qb mb db]) R2/\CodeOk (stepR E ⟨op,iA,iB,iK,iL⟩ s)),.fits (fun v W=>∃Pb nb cb Qb mb db,v= .tuple #[.agg #[.slice Pb nb cb,.slice Qb mb db],.int .i64 g]/\StIs elD W (.agg #[.slice Pb nb cb,.slice Qb mb db]) R2/\CodeOk (stepR E ⟨op,iA,iB,iK,iL⟩ s)),.fits (fun v W=>∃Pb nb cb Qb mb db,v= .agg #[.slice Pb nb cb,.slice Qb mb db]/\StIs elD W (.agg #[.slice Pb nb cb,.slice Qb mb db]) R2/\CodeOk (stepR E ⟨op,iA,iB,iK,iL⟩ s)),.is (.int .i64 g),.fits (fun v W=>∃gs,v= .pointer (some ⟨gs,0,none⟩)/\wr.heap.size<=gs/\W.heap[gs]? = some (.cells #[.slice none 0 0,.slice none 0 0] 30 (0,0)))] (by kernel_rfl) (by kernel_rfl) (by kernel_rfl) (by kernel_rfl) rfl rfl rfl rfl rfl ?_ ?_ ?_
     ·simp only[List.take_succ_cons,List.take_zero]
      with_reducible refine Stab.zaF ?_ ?_ ?_
      ·exact Stab.owes_load rfl (fun v W hb hv=>by subst hv;exact run_ldEn (blk HX.out hb)) rfl
      ·exact trivial
      with_reducible refine Stab.zaF ?_ ?_ ?_
      ·exact Stab.owes_load rfl (fun v W hb hv=>by subst hv;exact ld_stD (blk HY.out hb)) rfl
      ·exact trivial
      with_reducible refine Stab.zaF ?_ ?_ ?_
      ·exact Stab.owes_move rfl rfl rfl
      ·exact trivial
      with_reducible refine Stab.zaF ?_ ?_ ?_
      ·exact Stab.owes_move rfl rfl rfl
      ·exact trivial
      with_reducible refine Stab.zaF ?_ ?_ ?_
      ·exact Stab.owes_indexAt rfl rfl rfl (fun W=>run_idxIn W hlt hq2) rfl
      ·exact trivial
      with_reducible refine Stab.zaF ?_ ?_ ?_
      ·exact Stab.owes_load rfl (fun v W hb hv=>by subst hv;exact run_ldIn ((hb.cell (p:=⟨gI,q2,none⟩) hgI).trans e0) ((hb.cell (p:=⟨gI,q2+1,none⟩) hgI).trans e1) ((hb.cell (p:=⟨gI,q2+2,none⟩) hgI).trans e2) ((hb.cell (p:=⟨gI,q2+3,none⟩) hgI).trans e3) ((hb.cell (p:=⟨gI,q2+4,none⟩) hgI).trans e4)) rfl
      ·exact trivial
      with_reducible refine Stab.zaF ?_ ?_ ?_
      ·(refine Stab.owes_call Tryz.func15 (by kernel_rfl) (by kernel_rfl) rfl (fun vs W hb hall=>?_) rfl;obtain ⟨_,_,rfl,rfl,_,_,rfl,rfl,_,_,rfl,rfl,rfl⟩:=hall;refine (rstep_any (i:=⟨op,iA,iB,iK,iL⟩) (HE.out.keep (HBW.out.trans (hb.mono HBW.out.size))) (HS.out.keep hb) HSZ.out HF.out (HLB.out.keep hb)).mono ?_;intro e w2 h;obtain ⟨Pb,nb,cb,Qb,mb,db,rfl,h2,hb2,h3⟩:=rstepC h;rw[HR2.out] at h2;rw[HG.out];exact⟨_,rfl,hb2,Pb,nb,cb,Qb,mb,db,rfl,h2,h3⟩)
      ·exact (fun v w w' h hb=>by obtain ⟨Pb,nb,cb,Qb,mb,db,h1,h2,h3⟩:=h;exact⟨Pb,nb,cb,Qb,mb,db,h1,h2.keep hb,h3⟩)
      with_reducible refine Stab.zaF ?_ ?_ ?_
      ·exact Stab.owes_move rfl rfl rfl
      ·exact (fun v w w' h hb=>by obtain ⟨Pb,nb,cb,Qb,mb,db,h1,h2,h3⟩:=h;exact⟨Pb,nb,cb,Qb,mb,db,h1,h2.keep hb,h3⟩)
      with_reducible refine Stab.zaF ?_ ?_ ?_
      ·exact owes_extF rfl rfl (fun v W h=>by obtain ⟨Pb,nb,cb,Qb,mb,db,rfl,h2⟩:=h;exact⟨_,run_ext0 W,Pb,nb,cb,Qb,mb,db,rfl,h2⟩) rfl
      ·exact (fun v w w' h hb=>by obtain ⟨Pb,nb,cb,Qb,mb,db,h1,h2,h3⟩:=h;exact⟨Pb,nb,cb,Qb,mb,db,h1,h2.keep hb,h3⟩)
      with_reducible refine Stab.zaF ?_ ?_ ?_
      ·exact owes_extI rfl rfl (fun v W h=>by obtain ⟨Pb,nb,cb,Qb,mb,db,rfl,h2⟩:=h;exact run_ext1 W) rfl
      ·exact trivial
      with_reducible refine Stab.zaF ?_ ?_ ?_
      ·(refine Stab.owes_alloc (t:=30) rfl (fun W hb=>?_) rfl;go_simp;exact⟨zaB W _,W.heap.size,rfl,hb.size,zaC W _⟩)
      ·exact (fun v w w' h hb=>by obtain ⟨gs,h1,h2,h3⟩:=h;exact⟨gs,h1,h2,blk h3 hb⟩)
      exact Stab.steps_nil
     all_goals (
      simp only[List.take_succ_cons,List.take_zero,List.eraseIdx_cons_succ,List.eraseIdx_cons_zero]
      intro z1 z2 z3 z4 w5 hb hI
      obtain⟨⟨yn,rfl,hgs,hgc⟩,⟨P5,n5,c5,Q5,m5,d5,rfl,hsb,hco⟩,⟨Pb1,nb1,cb1,Qb1,mb1,db1,rfl,_⟩,_⟩:=hI
      simp only[Act.put,List.setIfInBounds_toArray,List.set_cons_succ,List.set_cons_zero]
      have hb6:Below wr.heap.size wr ((w5.setCell ⟨yn,0,none⟩ (.slice P5 n5 c5)).setCell ⟨yn,1,none⟩ (.slice Q5 m5 d5)):=(hb.setCell (p:=⟨yn,0,none⟩) hgs _).setCell (p:=⟨yn,1,none⟩) hgs _
      have HYN:=jq hgc
      have HSB:=jq hsb
      have HCO:=jq hco
      have HB6:=jq hb6
      have HY5:=jq (blk HY.out hb)
      have HLT:Hid (y<wr.heap.size):=jl HY.out
      have HGS:=jq hgs
      obtain⟨z0,z1⟩:=zaH hgc
      have zp0:=(zaA hgc 0).2
      have zp1:=(zaA hgc 1).2
      have zl:yn<w5.heap.size:=jl hgc
      clear hb hgs hgc hsb hco hb6 e0 e1 e2 e3 e4
      cases hx:instrR E ⟨op,iA,iB,iK,iL⟩ s with
      | er ee=>
       have hst:stepR E ⟨op,iA,iB,iK,iL⟩ s= .er ee:=(stepR_sane HSN.out).trans hx
       have HGE:Hid (g=ee):=by rw[<- HG.out,hst];rfl
       have hne:ee≠0:=HCO.out ee hst
       obtain rfl:=HGE.out
       have t1:(g == 0)=false:=by simpa using hne
       have t2:(g != 0)=true:=by simpa using hne
       have HRE:Hid (R.2=g):=by
        show _=_
        rw[HTR.out,go_cons HLP.out,pathGo_er hx]
       have HBF:=jq (HBW.out.trans (HB6.out.mono HBW.out.size))
       clear hx hst hne
       go_wp2_with fail
       exact jr (v:=.tuple #[.slice none 0 0,.int .i64 g]) (by simp[results,Tryz.results22,go_sem]) rfl ⟨by rw[HRE.out,if_neg (by simpa using t1)],HBF.out⟩
      | ok s2=>
       have hst:stepR E ⟨op,iA,iB,iK,iL⟩ s= .ok s2:=(stepR_sane HSN.out).trans hx
       have HGE:Hid (g=0):=by rw[<- HG.out,hst];rfl
       have HRE:Hid (R2=s2):=by rw[<- HR2.out,hst];rfl
       obtain rfl:=HGE.out
       obtain rfl:=HRE.out
       have HSN2:=jq (instr_sane HSN.out hx)
       have HBD2:Hid (Bd (.ok R2) (1+k*1001+1001)):=by
        have h:=Bd.instr (E:=E) (i:=⟨op,iA,iB,iK,iL⟩) HF.out HBD.out
        rw[hx] at h
        exact h
       have HTR2:Hid (R=((t ++ [s]) ++ (pathGo E ((l.map (·.1)).drop (k+1)) R2).1,(pathGo E ((l.map (·.1)).drop (k+1)) R2).2)):=by
        show _=_
        rw[HTR.out,go_cons HLP.out,pathGo_ok hx]
        simp
       clear hx hst
       obtain⟨y0,y1⟩:=zaH HY5.out
       have yp0:=(zaA HY5.out 0).2
       have yp1:=(zaA HY5.out 1).2
       have yl:y<w5.heap.size:=jl HY5.out
       have ne1:yn≠y:=by have:=HLT.out;have:=HGS.out;omega
       have ne2:y≠yn:=Ne.symm ne1
       go_wp2_with (at_builtin;refine stop_ ?_)
       clear z0 z1 zp0 zp1 zl y0 y1 yp0 yp1 yl
       have hS6:StIs elD ((w5.setCell ⟨yn,0,none⟩ (.slice P5 n5 c5)).setCell ⟨yn,1,none⟩ (.slice Q5 m5 d5)) (.agg #[.slice P5 n5 c5,.slice Q5 m5 d5]) R2:=StIs.apart (e:=76) (hi:=infoD) HSB.out (nob2 HYN.out) (((But.refl yn w5).setCell 0 _).setCell 1 _)
       have hY6:=blk HY.out HB6.out
       have hX6:=blk HX.out HB6.out
       have hJ6:=HRJ.out.keep HB6.out
       have hB6:=HBW.out.trans (HB6.out.mono HBW.out.size)
       have hs6:(((w5.setCell ⟨yn,0,none⟩ (.slice P5 n5 c5)).setCell ⟨yn,1,none⟩ (.slice Q5 m5 d5))).heap.size=w5.heap.size:=by rw[zaJ,zaJ]
       generalize ((w5.setCell ⟨yn,0,none⟩ (.slice P5 n5 c5)).setCell ⟨yn,1,none⟩ (.slice Q5 m5 d5))=w6 at *
       have hbt:But y w6 ((w6.setCell ⟨y,0,none⟩ (.slice P5 n5 c5)).setCell ⟨y,1,none⟩ (.slice Q5 m5 d5)):=((But.refl y w6).setCell 0 _).setCell 1 _
       have hS7:StIs elD ((w6.setCell ⟨y,0,none⟩ (.slice P5 n5 c5)).setCell ⟨y,1,none⟩ (.slice Q5 m5 d5)) (.agg #[.slice P5 n5 c5,.slice Q5 m5 d5]) R2:=StIs.apart (e:=76) (hi:=infoD) hS6 (nob2 hY6) hbt
       have hY7:(((w6.setCell ⟨y,0,none⟩ (.slice P5 n5 c5)).setCell ⟨y,1,none⟩ (.slice Q5 m5 d5))).heap[y]? = some (.cells #[.slice P5 n5 c5,.slice Q5 m5 d5] 30 (0,0)):=by
        rw[zaE (zaE hY6 _)]
        rfl
       have hX7:(((w6.setCell ⟨y,0,none⟩ (.slice P5 n5 c5)).setCell ⟨y,1,none⟩ (.slice Q5 m5 d5))).heap[x]? = some (.cells #[.slice V.Pt V.nt V.ct,.slice V.Pf V.nf V.cf,.int .i64 E.tables,.int .i64 E.mems,.slice V.Pg V.ng V.cg,.slice V.Pl V.nl V.cl,.slice V.Pr V.nr V.cr] 27 (0,0)):=(hbt.block x (jl hX6) (by have:=HXY.out;omega)).trans hX6
       have hJ7:=hJ6.but (nob2 hY6) hbt
       have hwy:w.heap.size<=y:=by have:=HXY.out;omega
       have hB7:=(hB6.setCell (p:=⟨y,0,none⟩) hwy (.slice P5 n5 c5)).setCell (p:=⟨y,1,none⟩) hwy (.slice Q5 m5 d5)
       have hs7:(((w6.setCell ⟨y,0,none⟩ (.slice P5 n5 c5)).setCell ⟨y,1,none⟩ (.slice Q5 m5 d5))).heap.size=w5.heap.size:=by rw[zaJ,zaJ];exact hs6
       generalize ((w6.setCell ⟨y,0,none⟩ (.slice P5 n5 c5)).setCell ⟨y,1,none⟩ (.slice Q5 m5 d5))=w7 at *
       have HBN:=jq (zaB w7 (.cells #[.slice P5 n5 c5,.slice Q5 m5 d5] 30))
       have hY8:=blk hY7 HBN.out
       have hX8:=blk hX7 HBN.out
       have hS8:=hS7.keep HBN.out
       have hB8:=hB7.trans (HBN.out.mono hB7.size)
       have hll:=hJ7.len
       obtain⟨⟨rows,h1,h2,h3⟩,h4⟩:=hJ7.keep HBN.out
       have hrl:rows.length=k+1:=by rw[<- hll,<- h1,List.length_map]
       have hat:At elSD (w7.alloc (.cells #[.slice P5 n5 c5,.slice Q5 m5 d5] 30)) w7.heap.size 0 (R2,(.slice P5 n5 c5,.slice Q5 m5 d5)):=newG' elSD w7 (R2,(.slice P5 n5 c5,.slice Q5 m5 d5)) #[.slice P5 n5 c5,.slice Q5 m5 d5] _ rfl rfl
       rw[hs7] at hat
       clear HY5 HYN HSB HB6 hbt hS6 hY6 hX6 hJ6 hB6 hll hJ7
       have HNW:=jq HBN.out.size
       generalize w7.alloc (.cells #[.slice P5 n5 c5,.slice Q5 m5 d5] 30)=w8 at *
       refine jq ?_
       refine wp_oneP elSD NoP (by intro u hu;rcases List.mem_cons.1 hu with rfl | hu;exact nop_slice _ _ _;rcases List.mem_cons.1 hu with rfl | hu;exact nop_slice _ _ _;cases hu) 63 Tryz.underlying63 w8 rfl (.tmp 53) (.tmp 55) rfl (y+1) _ rows (R2,(.slice P5 n5 c5,.slice Q5 m5 d5)) hS8 (by intro u hu;simp only[elSD,List.mem_cons,List.not_mem_nil,or_false] at hu;rcases hu with rfl | rfl <;> exact nop_slice _ _ _) (by rfl) h2 h4 w5.heap.size (by rfl) hat (by have:=HNB.out;omega) (by decide) (jl hY8) ?_
       intro v9 w9 ho9 hal9 hgr9
       obtain⟨S9,c9,hv9⟩:=ho9.form
       have hil:(rows ++ [((R2,(.slice P5 n5 c5,.slice Q5 m5 d5)):StV)]).length=k+1+1:=by rw[List.length_append,hrl];rfl
       rw[hil] at hv9
       subst hv9
       have hng:∀q,q<=y->some q≠(Value.slice S (k+1) c1).ownBlock:=fun q hq e=>by have:=(World.ownsRow.lt h2 q e.symm).1;omega
       have HY:=jq ((hgr9.block y (jl hY8) (hng y (Nat.le_refl _))).trans hY8)
       have HX:=jq ((hgr9.block x (jl hX8) (hng x (by have:=HXY.out;omega))).trans hX8)
       have HS:=jq (stis_grown hgr9 h2 h4 hS8)
       have HJ:Hid (RJ w9 y S9 (k+1+1) c9 ((t ++ [s]) ++ [R2])):=by
        refine⟨⟨_,?_,ho9,fun p hp=>?_⟩,hal9⟩
        ·rw[List.map_append,h1];rfl
        ·rcases List.mem_append.1 hp with hp | hp
         ·exact stis_grown hgr9 h2 h4 (h3 p hp)
         ·rw[List.mem_singleton.1 hp]
          exact HS.out
       have HB9:=jq (hB8.grown hgr9 hB8.size (fun q hq=>by have:=(World.ownsRow.lt h2 q hq).1;omega))
       have hw1:IntKind.i64.wrap ((k:Int)+1)=(k:Int)+1:=IntWalk.i64_in _ (by have:=HNB.out;omega)
       clear hY8 hX8 hS8 hB8 h1 h2 h3 h4 hat ho9 hal9 hgr9 hng hil hrl
       simp only[Act.put,List.setIfInBounds_toArray,List.set_cons_succ,List.set_cons_zero]
       go_wp2_with fail
       go_roundw
       case rel=>exact ⟨k+1,R2,t ++ [s],S9,c9,P5,n5,c5,Q5,m5,d5,by go_num,hlt,rfl,by rw[List.length_append,HTL.out];rfl,HB9.out,HX.out,HY.out,HS.out,HJ.out,HBD2.out.mono (by omega),HSN2.out,HTR2.out⟩
       case measure=>simp[intOf];omega)
    ·obtain rfl:k=n:=by omega
     have i3:decide ((k:Int)<(k:Int))=false:=decide_eq_false (by omega)
     have HRE:Hid (R=(t ++ [s],0)):=jq (by rw[HTR.out,List.drop_of_length_le (by rw[List.length_map,HLN.out];exact Nat.le_refl _)];rfl)
     obtain⟨⟨rows,h1,h2,h3⟩,h4⟩:=HRJ.out
     have HRW:=jq (h2.row h3)
     have HM:=jq h1
     clear h1 h2 h3 h4
     go_wp2_with fail
     exact jr (v:=.tuple #[.slice S (k+1) c1,.int .i64 0]) (by simp[results,Tryz.results22,go_sem]) rfl ⟨by rw[HRE.out];exact⟨_,rows,rfl,HRW.out,HM.out⟩,HBW.out⟩
end Go.Proofs.YtlappkflnlbfcaaGreatDoor.Chk
