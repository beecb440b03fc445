import Derived.Test.YtlappkflnlbfcaaGreatDoorPkChkClose
import Derived.Test.YtlappkflnlbfcaaGreatDoorPkChkM
import Derived.Test.YtlappkflnlbfcaaGreatDoorPkChkNamed
import Derived.Test.YtlappkflnlbfcaaGreatDoorPkTypSane
import Derived.Test.YtlappkflnlbfcaaGreatDoorPkChkTk7
namespace Go.Proofs.YtlappkflnlbfcaaGreatDoor.Chk
open Go renaming bodyPost_ret → jr
open Lib renaming hid → jq
open Go.RowKit Row9 Stk
set_option maxRecDepth 100000
set_option maxHeartbeats 8000000
set_option linter.unusedVariables false
def smallE (E:EnvP):Bool:=decide (E.types.length<=70) && decide (E.funcs.length<=130) && decide (E.globs.length<=70) && decide (E.locals.length<=100) && decide (E.results.length<=20) && E.types.all fun p=>decide (p.1.length<=40) && decide (p.2.length<=40)
theorem zaK {w:World}{y:Nat}{a b c d e f g:Value}{t:TypeId}(h:w.heap[y]? = some (.cells #[a,b,c,d,e,f,g] t (0,0))):w.cell? ⟨y,0,none⟩=some a/\w.cell? ⟨y,1,none⟩=some b/\w.cell? ⟨y,2,none⟩=some c/\w.cell? ⟨y,3,none⟩=some d/\w.cell? ⟨y,4,none⟩=some e/\w.cell? ⟨y,5,none⟩=some f/\w.cell? ⟨y,6,none⟩=some g:=
 ⟨(zaA h 0).1,(zaA h 1).1,(zaA h 2).1,(zaA h 3).1,(zaA h 4).1,(zaA h 5).1,(zaA h 6).1⟩
theorem small_any {w:World}{V:EV}{E:EnvP}(h:EnvOk elGD w V E):
  Calls Tryz.prog 10 #[evV V E] w fun e w'=>e= .returned (.bool (smallE E))/\Below w.heap.size w w':=by
 obtain⟨⟨ts,hts,hmt⟩,hf,hg,hl,hr,hit,him⟩:=h
 obtain⟨types,funcs,tb,mm,globs,locals,ress⟩:=E
 obtain⟨Pt,nt,ct,Pf,nf,cf,Pg,ng,cg,Pl,nl,cl,Pr,nr,cr⟩:=V
 simp only at hts hmt hf hg hl hr hit him
 have h1:ts.length=nt:=by obtain ⟨_,_,e,_⟩:=hts.form;injection e with _ e;exact e.symm
 have h2:funcs.length=nf:=by obtain ⟨_,_,e,_⟩:=hf.form;injection e with _ e;exact e.symm
 have h3:globs.length=ng:=by obtain ⟨_,_,e,_⟩:=hg.form;injection e with _ e;exact e.symm
 have h4:locals.length=nl:=by obtain ⟨_,_,e,_⟩:=hl.form;injection e with _ e;exact e.symm
 have h5:ress.length=nr:=by obtain ⟨_,_,e,_⟩:=hr.form;injection e with _ e;exact e.symm
 have hsm:smallE ⟨types,funcs,tb,mm,globs,locals,ress⟩=(decide (nt<=70) && decide (nf<=130) && decide (ng<=70) && decide (nl<=100) && decide (nr<=20) && ts.all fun p=>decide (p.1.1.length<=40) && decide (p.1.2.length<=40)):=by
  unfold smallE
  simp only
  rw[<- hmt,List.length_map,h1,h2,h3,h4,h5,List.all_map]
  rfl
 have HW:=jq (zaB w (.cells #[.slice Pt nt ct,.slice Pf nf cf,.int .i64 tb,.int .i64 mm,.slice Pg ng cg,.slice Pl nl cl,.slice Pr nr cr] 27))
 have HX:=jq (zaC w (.cells #[.slice Pt nt ct,.slice Pf nf cf,.int .i64 tb,.int .i64 mm,.slice Pg ng cg,.slice Pl nl cl,.slice Pr nr cr] 27))
 have HC:=jq (hts.keep HW.out)
 have HNL:=jq h1
 obtain⟨R,hR⟩:∃R,smallE ⟨types,funcs,tb,mm,globs,locals,ress⟩=R:=⟨_,rfl⟩
 rw[hR] at hsm ⊢
 have HSM:=jq hsm
 clear hts hmt hf hg hl hr hit him h1 h2 h3 h4 h5 hR hsm
 obtain⟨b0,b1,b2,b3,b4,b5,b6⟩:=zaK HX.out
 show Calls _ _ #[.agg #[.slice Pt nt ct,.slice Pf nf cf,.int .i64 tb,.int .i64 mm,.slice Pg ng cg,.slice Pl nl cl,.slice Pr nr cr]] _ _
 by_cases c0:70<nt
 ·have t0:decide ((70:Int)<(nt:Int))=true:=decide_eq_true (by omega)
  have HQ:Hid (R=false):=by show _=_;rw[HSM.out,decide_eq_false (show ¬ nt<=70 by omega)];simp
  go_enter Tryz.func10,Tryz.ntmps10
  go_wp2_with fail
  all_goals first
   | exact absurd (by assumption) (undef_ne _)
   | exact jr (v:=.bool false) (by simp[results,Tryz.results10,go_sem]) rfl ⟨by rw[HQ.out],HW.out⟩
 ·have t0:decide ((70:Int)<(nt:Int))=false:=decide_eq_false (by omega)
  by_cases c1:130<nf
  ·have t1:decide ((130:Int)<(nf:Int))=true:=decide_eq_true (by omega)
   have HQ:Hid (R=false):=by show _=_;rw[HSM.out,decide_eq_false (show ¬ nf<=130 by omega)];simp
   go_enter Tryz.func10,Tryz.ntmps10
   go_wp2_with fail
   all_goals first
    | exact absurd (by assumption) (undef_ne _)
    | exact jr (v:=.bool false) (by simp[results,Tryz.results10,go_sem]) rfl ⟨by rw[HQ.out],HW.out⟩
  ·have t1:decide ((130:Int)<(nf:Int))=false:=decide_eq_false (by omega)
   by_cases c2:70<ng
   ·have t2:decide ((70:Int)<(ng:Int))=true:=decide_eq_true (by omega)
    have HQ:Hid (R=false):=by show _=_;rw[HSM.out,decide_eq_false (show ¬ ng<=70 by omega)];simp
    go_enter Tryz.func10,Tryz.ntmps10
    go_wp2_with fail
    all_goals first
     | exact absurd (by assumption) (undef_ne _)
     | exact jr (v:=.bool false) (by simp[results,Tryz.results10,go_sem]) rfl ⟨by rw[HQ.out],HW.out⟩
   ·have t2:decide ((70:Int)<(ng:Int))=false:=decide_eq_false (by omega)
    by_cases c3:100<nl
    ·have t3:decide ((100:Int)<(nl:Int))=true:=decide_eq_true (by omega)
     have HQ:Hid (R=false):=by show _=_;rw[HSM.out,decide_eq_false (show ¬ nl<=100 by omega)];simp
     go_enter Tryz.func10,Tryz.ntmps10
     go_wp2_with fail
     all_goals first
      | exact absurd (by assumption) (undef_ne _)
      | exact jr (v:=.bool false) (by simp[results,Tryz.results10,go_sem]) rfl ⟨by rw[HQ.out],HW.out⟩
    ·have t3:decide ((100:Int)<(nl:Int))=false:=decide_eq_false (by omega)
     by_cases c4:20<nr
     ·have t4:decide ((20:Int)<(nr:Int))=true:=decide_eq_true (by omega)
      have HQ:Hid (R=false):=by show _=_;rw[HSM.out,decide_eq_false (show ¬ nr<=20 by omega)];simp
      go_enter Tryz.func10,Tryz.ntmps10
      go_wp2_with fail
      all_goals first
       | exact absurd (by assumption) (undef_ne _)
       | exact jr (v:=.bool false) (by simp[results,Tryz.results10,go_sem]) rfl ⟨by rw[HQ.out],HW.out⟩
     ·have t4:decide ((20:Int)<(nr:Int))=false:=decide_eq_false (by omega)
      have HQ0:Hid (R=ts.all fun p=>decide (p.1.1.length<=40) && decide (p.1.2.length<=40)):=by show _=_;rw[HSM.out,decide_eq_true (show nt<=70 by omega),decide_eq_true (show nf<=130 by omega),decide_eq_true (show ng<=70 by omega),decide_eq_true (show nl<=100 by omega),decide_eq_true (show nr<=20 by omega)];simp
      go_enter Tryz.func10,Tryz.ntmps10
      go_wp2_with fail
      generalize w.alloc (.cells #[.slice Pt nt ct,.slice Pf nf cf,.int .i64 tb,.int .i64 mm,.slice Pg ng cg,.slice Pl nl cl,.slice Pr nr cr] 27)=w1 at *
      obtain⟨x,hx⟩:∃x,w.heap.size=x:=⟨_,rfl⟩
      rw[hx] at HX
      simp only[hx] at b0 b1 b2 b3 b4 b5 b6 ⊢
      have hxl:x<w1.heap.size:=jl HX.out
      clear hx
      go_loopw [3] (fun i' wr=>∃i:Nat,i'= .int .i64 (i:Int)/\i<=nt/\wr=w1/\(∀j p,j<i->ts[j]? = some p->p.1.1.length<=40/\p.1.2.length<=40)) (fun i' _=>nt - (intOf i').toNat)
      case atStart=>exact ⟨0,by go_num,Nat.zero_le _,rfl,fun j p hj=>absurd hj (by omega)⟩
      case round=>
       obtain⟨i,rfl,hi,hwr,hs⟩:=hrel
       obtain rfl:w1=wr:=hwr.symm
       have HSi:=jq hs
       clear hs
       by_cases hlt:i<nt
       ·obtain ⟨p,hp⟩:∃p,ts[i]? = some p:=⟨_,List.getElem?_eq_getElem (by rw[HNL.out];exact hlt)⟩
        obtain⟨g,off,rfl,hg,hCC,hO⟩:=HC.out.at_ hp
        have k0:w1.cell? ⟨g,off+i*2,none⟩=some p.2.1:=hCC 0 _ rfl
        have k1:w1.cell? ⟨g,off+i*2+1,none⟩=some p.2.2:=hCC 1 _ rfl
        obtain⟨Pe,ce,hpe,_⟩:=hO.1.form
        obtain⟨Ph,ch,hph,_⟩:=hO.2.form
        obtain⟨ne,hne⟩:∃ne,p.1.1.length=ne:=⟨_,rfl⟩
        obtain⟨nh,hnh⟩:∃nh,p.1.2.length=nh:=⟨_,rfl⟩
        rw[hne] at hpe
        rw[hnh] at hph
        rw[hpe] at k0
        rw[hph] at k1
        have i1:(0:Int)<=(i:Int):=by omega
        have i2:(i:Int)<(nt:Int):=by omega
        have hw1:IntKind.i64.wrap ((i:Int)+1)=(i:Int)+1:=IntWalk.i64_in _ (by omega)
        obtain⟨qq,hqq⟩:∃qq,off+i*2=qq:=⟨_,rfl⟩
        rw[hqq] at k0 k1
        have HP:=jq hp
        have HNE:=jq hne
        have HNH:=jq hnh
        clear hp hO hpe hph hne hnh hg hCC
        have HNO:Hid (¬ (ne<=40/\nh<=40)->R=false):=fun hq=>by
         rw[HQ0.out,List.all_eq_false]
         refine⟨p,List.mem_of_getElem? HP.out,?_⟩
         rw[HNE.out,HNH.out]
         simp only[Bool.and_eq_true,decide_eq_true_eq]
         exact hq
        by_cases h20:40<ne
        ·have u5:decide ((40:Int)<(ne:Int))=true:=decide_eq_true (by omega)
         have HQ:Hid (R=false):=HNO.out (by omega)
         go_wp2_with fail
         all_goals first
          | exact absurd (by assumption) (undef_ne _)
          | exact jr (v:=.bool false) (by simp[results,Tryz.results10,go_sem]) rfl ⟨by rw[HQ.out],HW.out⟩
        ·have u5:decide ((40:Int)<(ne:Int))=false:=decide_eq_false (by omega)
         by_cases h21:40<nh
         ·have u6:decide ((40:Int)<(nh:Int))=true:=decide_eq_true (by omega)
          have HQ:Hid (R=false):=HNO.out (by omega)
          go_wp2_with fail
          exact jr (v:=.bool false) (by simp[results,Tryz.results10,go_sem]) rfl ⟨by rw[HQ.out],HW.out⟩
         ·have u6:decide ((40:Int)<(nh:Int))=false:=decide_eq_false (by omega)
          have HN:Hid (∀j p,j<i+1->ts[j]? = some p->p.1.1.length<=40/\p.1.2.length<=40):=fun j p' hj hp'=>by
           by_cases e:j=i
           ·subst e
            obtain rfl:=Option.some.inj (hp'.symm.trans HP.out)
            rw[HNE.out,HNH.out]
            omega
           ·exact HSi.out j p' (by omega) hp'
          go_wp2_with fail
          go_roundw
          case rel=>exact ⟨i+1,by go_num,hlt,trivial,HN.out⟩
          case measure=>simp[intOf];omega
       ·obtain rfl:i=nt:=by omega
        have HQ:Hid (R=true):=by
         show _=_
         rw[HQ0.out,List.all_eq_true]
         intro p hp
         obtain⟨j,hj⟩:=List.getElem?_of_mem hp
         have hjl:j<i:=by rw[<- HNL.out];exact(List.getElem?_eq_some_iff.1 hj).1
         have:=HSi.out j p hjl hj
         rw[decide_eq_true this.1,decide_eq_true this.2]
         rfl
        go_wp2_with fail
        exact jr (v:=.bool true) (by simp[results,Tryz.results10,go_sem]) rfl ⟨by rw[HQ.out],HW.out⟩
theorem any_all {α:Type}(q:α->Bool)(l:List α):(!(l.any fun a=>!(q a)))=l.all q:=by
 induction l with
 | nil=>rfl
 | cons a l ih=>rw[List.any_cons,List.all_cons,<- ih];cases q a <;> simp
theorem any_take {α:Type}{p:α->Bool}{l:List α}{k:Nat}{a:α}(h:l[k]? = some a)(h1:(l.take k).any p=false):(l.take (k+1)).any p=p a:=by
 obtain⟨hk,e⟩:=List.getElem?_eq_some_iff.1 h
 rw[List.take_succ_eq_append_getElem hk,List.any_append,h1,e]
 simp
theorem any_in {α:Type}{p:α->Bool}{l:List α}{k:Nat}{a:α}(h:l[k]? = some a)(h1:p a=true):l.any p=true:=List.any_eq_true.2 ⟨a,List.mem_of_getElem? h,h1⟩
theorem idx_byte {L:List Int}{v:Value}{w:World}{f:FuncId}{caps:Array Value}{p:Int->Bool}(hx:Row elB w v L)(hk:Stab.FnOk Tryz.prog f)(hf:∀W a,a∈L->Below w.heap.size w W->Calls Tryz.prog f (#[.int .u8 a] ++ caps) W fun e W'=>e= .returned (.bool (p a))/\Below W.heap.size W W'):
  Calls Tryz.prog 87 #[v,.func (.func f) #[] caps] w fun e w'=>(∃r:Int,e= .returned (.int .i64 r)/\decide (0<=r)=L.any p)/\Below w.heap.size w w':=by
 obtain⟨A,c,rfl,hc,hm⟩:=hx.form
 have hrun:=run_k hk
 obtain⟨n,hn⟩:∃n,L.length=n:=⟨_,rfl⟩
 rw[hn] at hx hc ⊢
 have N1:=jq hn
 have HX:=jq hx
 have HF:=jq hf
 have hbig:n<=9223372036854775807:=by omega
 clear hn hx hc hm hf
 go_enter Tryz.func87,Tryz.ntmps87
 go_wp2_with fail
 go_loopw [8] (fun j' wr=>∃k:Nat,j'= .int .i64 (k:Int)/\k<=n/\(L.take k).any p=false/\Below w.heap.size w wr) (fun j' _=>n - (intOf j').toNat)
 case atStart=>exact ⟨0,by go_num,Nat.zero_le _,rfl,Below.refl _ _⟩
 case round=>
  obtain⟨k,rfl,hk,ht,hb⟩:=hrel
  have HT:=jq ht
  have HB:=jq hb
  clear ht hb
  by_cases hlt:k<n
  ·obtain ⟨a,ha⟩:∃a,L[k]? = some a:=⟨_,List.getElem?_eq_getElem (by rw[N1.out];exact hlt)⟩
   obtain⟨g,off,rfl,hg,hA,hok⟩:=(HX.out.keep HB.out).at_ ha
   have c0:=hA 0 _ rfl
   simp only[Nat.add_zero] at c0
   have hq:off+k*elB.s=off+k:=by show off+k*1=_;omega
   rw[hq] at c0
   have hin1:(0:Int)<=(k:Int):=by omega
   have hin2:(k:Int)<(n:Int):=by omega
   have hw1:IntKind.i64.wrap ((k:Int)+1)=(k:Int)+1:=IntWalk.i64_in _ (by omega)
   have HC:=jq (HF.out wr a (List.mem_of_getElem? ha) HB.out)
   cases hq:p a with
   | true=>
    rw[hq] at HC
    have HQ:Hid (decide (0<=(k:Int))=L.any p):=by
     show _=_
     rw[decide_eq_true hin1,any_in ha hq]
    clear hq ha hA hok hg
    go_wp2_with fail
    refine HC.out.mono ?_
    rintro e w1 ⟨rfl,hb⟩
    have HB1:=jq (HB.out.trans (hb.mono HB.out.size))
    clear hb c0
    go_wp2_with fail
    exact jr (v:=.int .i64 (k:Int)) (by simp[results,Tryz.results87,go_sem]) rfl ⟨⟨_,rfl,HQ.out⟩,HB1.out⟩
   | false=>
    rw[hq] at HC
    have HQ:Hid ((L.take (k+1)).any p=false):=by
     show _=_
     rw[any_take ha HT.out,hq]
    clear hq ha hA hok hg
    go_wp2_with fail
    refine HC.out.mono ?_
    rintro e w1 ⟨rfl,hb⟩
    have HB1:=jq (HB.out.trans (hb.mono HB.out.size))
    clear hb c0
    go_wp2_with fail
    go_roundw
    case rel=>exact ⟨k+1,by go_num,hlt,HQ.out,HB1.out⟩
    case measure=>simp[intOf];omega
  ·obtain rfl:k=n:=by omega
   have HQ:Hid (decide (0<=(-1:Int))=L.any p):=by
    show _=_
    rw[decide_eq_false (by decide),<- HT.out,List.take_of_length_le (by rw[N1.out];exact Nat.le_refl _)]
   go_wp2_with fail
   exact jr (v:=.int .i64 (-1)) (by simp[results,Tryz.results87,go_sem]) rfl ⟨⟨_,rfl,HQ.out⟩,HB.out⟩
theorem con_byte {L:List Int}{v:Value}{w:World}{f:FuncId}{caps:Array Value}{p:Int->Bool}(hx:Row elB w v L)(hk:Stab.FnOk Tryz.prog f)(hf:∀W a,a∈L->Below w.heap.size w W->Calls Tryz.prog f (#[.int .u8 a] ++ caps) W fun e W'=>e= .returned (.bool (p a))/\Below W.heap.size W W'):
  Calls Tryz.prog 56 #[v,.func (.func f) #[] caps] w fun e w'=>e= .returned (.bool (L.any p))/\Below w.heap.size w w':=by
 have HC:=jq (idx_byte hx hk hf)
 obtain⟨A,c,rfl,_⟩:=hx.form
 generalize L.any p=q at HC ⊢
 generalize L.length=n at *
 clear hx hf
 go_enter Tryz.func56,Tryz.ntmps56
 go_wp2_with fail
 refine HC.out.mono ?_
 rintro e w1 ⟨⟨r,rfl,hr⟩,hb⟩
 have HR:=jq hr
 have HB:=jq hb
 clear hr hb HC
 go_wp2_with fail
 exact jr (v:=.bool (decide (0<=r))) (by simp[results,Tryz.results56,go_sem]) rfl ⟨by rw[HR.out],HB.out⟩
theorem not_byte {W:World}{b:Nat}{g:FuncId}{a:Int}{q:Int->Bool}(hk:Stab.FnOk Tryz.prog g)(hb:W.heap[b]? = some (.cells #[.func (.func g) #[] #[]] 111 (0,0)))(hg:∀W',Below W.heap.size W W'->Calls Tryz.prog g #[.int .u8 a] W' fun e W2=>e= .returned (.bool (q a))/\Below W'.heap.size W' W2):
  Calls Tryz.prog 140 (#[.int .u8 a] ++ #[.pointer (some ⟨b,0,none⟩)]) W fun e W'=>e= .returned (.bool (!(q a)))/\Below W.heap.size W W':=by
 have hrun:=run_k hk
 have HBN:=jq (Below.refl W.heap.size W)
 have HG:=jq (hg _ HBN.out)
 have c0:=(zaA hb 0).1
 have bl:=jl hb
 simp only[List.getElem?_toArray,List.getElem?_cons_zero] at c0
 generalize q a=r at *
 clear hb hg
 show Calls _ _ #[.int .u8 a,.pointer (some ⟨b,0,none⟩)] _ _
 go_enter Tryz.func140,Tryz.ntmps140
 go_wp2_with fail
 refine HG.out.mono ?_
 rintro e w1 ⟨rfl,hb⟩
 have HB1:=jq (HBN.out.trans (hb.mono HBN.out.size))
 clear hb HG c0 bl
 go_wp2_with fail
 exact jr (v:=.bool (!r)) (by simp[results,Tryz.results140,go_sem]) rfl ⟨rfl,HB1.out⟩
theorem are_byte {L:List Int}{v:Value}{w:World}{g:FuncId}{q:Int->Bool}(hx:Row elB w v L)(hk:Stab.FnOk Tryz.prog g)(hg:∀W a,a∈L->Below w.heap.size w W->Calls Tryz.prog g #[.int .u8 a] W fun e W'=>e= .returned (.bool (q a))/\Below W.heap.size W W'):
  Calls Tryz.prog 107 #[v,.func (.func g) #[] #[]] w fun e w'=>e= .returned (.bool (L.all q))/\Below w.heap.size w w':=by
 have HBN:=jq (zaB w (.cells #[.func (.func g) #[] #[]] 111))
 have HZ:=jq (zaC w (.cells #[.func (.func g) #[] #[]] 111))
 have HC:=jq (con_byte (f:=140) (caps:=#[.pointer (some ⟨w.heap.size,0,none⟩)]) (p:=fun a=>!(q a)) (hx.keep HBN.out) ⟨_,Tryz.func140,by kernel_rfl,by kernel_rfl⟩ (fun W a ha hW=>not_byte hk (blk HZ.out hW) (fun W' hW'=>hg W' a ha ((HBN.out.trans (hW.mono HBN.out.size)).trans (hW'.mono (Nat.le_trans HBN.out.size hW.size))))))
 rw[<- any_all]
 generalize (L.any fun a=>!(q a))=r at *
 obtain⟨A,c,rfl,_⟩:=hx.form
 generalize L.length=n at *
 clear hx hg
 go_enter Tryz.func107,Tryz.ntmps107
 go_wp2_with fail
 refine HC.out.mono ?_
 rintro e w1 ⟨rfl,hb⟩
 have HB1:=jq (HBN.out.trans (hb.mono HBN.out.size))
 clear hb HC
 go_wp2_with fail
 exact jr (v:=.bool (!r)) (by simp[results,Tryz.results107,go_sem]) rfl ⟨rfl,HB1.out⟩
theorem idx_fn {L:List FnV}{v:Value}{w:World}{f:FuncId}{caps:Array Value}{p:FnV->Bool}(hx:Row elF w v L)(hk:Stab.FnOk Tryz.prog f)(hf:∀W a,a∈L->Below w.heap.size w W->Calls Tryz.prog f (#[.agg #[a.2.1,a.2.2]] ++ caps) W fun e W'=>e= .returned (.bool (p a))/\Below W.heap.size W W'):
  Calls Tryz.prog 164 #[v,.func (.func f) #[] caps] w fun e w'=>(∃r:Int,e= .returned (.int .i64 r)/\decide (0<=r)=L.any p)/\Below w.heap.size w w':=by
 obtain⟨A,c,rfl,hc,hm⟩:=hx.form
 have hrun:=run_k hk
 obtain⟨n,hn⟩:∃n,L.length=n:=⟨_,rfl⟩
 rw[hn] at hx hc ⊢
 have N1:=jq hn
 have HX:=jq hx
 have HF:=jq hf
 have hbig:n<=9223372036854775807:=by omega
 clear hn hx hc hm hf
 go_enter Tryz.func164,Tryz.ntmps164
 go_wp2_with fail
 go_loopw [8] (fun j' wr=>∃k:Nat,j'= .int .i64 (k:Int)/\k<=n/\(L.take k).any p=false/\Below w.heap.size w wr) (fun j' _=>n - (intOf j').toNat)
 case atStart=>exact ⟨0,by go_num,Nat.zero_le _,rfl,Below.refl _ _⟩
 case round=>
  obtain⟨k,rfl,hk,ht,hb⟩:=hrel
  have HT:=jq ht
  have HB:=jq hb
  clear ht hb
  by_cases hlt:k<n
  ·obtain ⟨a,ha⟩:∃a,L[k]? = some a:=⟨_,List.getElem?_eq_getElem (by rw[N1.out];exact hlt)⟩
   obtain⟨g,off,rfl,hg,hA,hok⟩:=(HX.out.keep HB.out).at_ ha
   have c0:=hA 0 _ rfl
   have c1:=hA 1 _ rfl
   simp only[Nat.add_zero] at c0
   obtain⟨q0,hq⟩:∃q0,off+k*elF.s=q0:=⟨_,rfl⟩
   rw[hq] at c0 c1
   have hq:off+k*2=q0:=hq
   obtain⟨P1,n1,kk1,Q1,m1,d1,e1,e2⟩:=fn_form hok
   rw[e1] at c0
   rw[e2] at c1
   have hin1:(0:Int)<=(k:Int):=by omega
   have hin2:(k:Int)<(n:Int):=by omega
   have hw1:IntKind.i64.wrap ((k:Int)+1)=(k:Int)+1:=IntWalk.i64_in _ (by omega)
   have HC:=jq (HF.out wr a (List.mem_of_getElem? ha) HB.out)
   rw[e1,e2] at HC
   cases hq:p a with
   | true=>
    rw[hq] at HC
    have HQ:Hid (decide (0<=(k:Int))=L.any p):=by
     show _=_
     rw[decide_eq_true hin1,any_in ha hq]
    clear hq ha hA hok hg
    go_wp2_with fail
    refine HC.out.mono ?_
    rintro e w1 ⟨rfl,hb⟩
    have HB1:=jq (HB.out.trans (hb.mono HB.out.size))
    clear hb c0 c1
    go_wp2_with fail
    exact jr (v:=.int .i64 (k:Int)) (by simp[results,Tryz.results164,go_sem]) rfl ⟨⟨_,rfl,HQ.out⟩,HB1.out⟩
   | false=>
    rw[hq] at HC
    have HQ:Hid ((L.take (k+1)).any p=false):=by
     show _=_
     rw[any_take ha HT.out,hq]
    clear hq ha hA hok hg
    go_wp2_with fail
    refine HC.out.mono ?_
    rintro e w1 ⟨rfl,hb⟩
    have HB1:=jq (HB.out.trans (hb.mono HB.out.size))
    clear hb c0 c1
    go_wp2_with fail
    go_roundw
    case rel=>exact ⟨k+1,by go_num,hlt,HQ.out,HB1.out⟩
    case measure=>simp[intOf];omega
  ·obtain rfl:k=n:=by omega
   have HQ:Hid (decide (0<=(-1:Int))=L.any p):=by
    show _=_
    rw[decide_eq_false (by decide),<- HT.out,List.take_of_length_le (by rw[N1.out];exact Nat.le_refl _)]
   go_wp2_with fail
   exact jr (v:=.int .i64 (-1)) (by simp[results,Tryz.results164,go_sem]) rfl ⟨⟨_,rfl,HQ.out⟩,HB.out⟩
theorem con_fn {L:List FnV}{v:Value}{w:World}{f:FuncId}{caps:Array Value}{p:FnV->Bool}(hx:Row elF w v L)(hk:Stab.FnOk Tryz.prog f)(hf:∀W a,a∈L->Below w.heap.size w W->Calls Tryz.prog f (#[.agg #[a.2.1,a.2.2]] ++ caps) W fun e W'=>e= .returned (.bool (p a))/\Below W.heap.size W W'):
  Calls Tryz.prog 138 #[v,.func (.func f) #[] caps] w fun e w'=>e= .returned (.bool (L.any p))/\Below w.heap.size w w':=by
 have HC:=jq (idx_fn hx hk hf)
 obtain⟨A,c,rfl,_⟩:=hx.form
 generalize L.any p=q at HC ⊢
 generalize L.length=n at *
 clear hx hf
 go_enter Tryz.func138,Tryz.ntmps138
 go_wp2_with fail
 refine HC.out.mono ?_
 rintro e w1 ⟨⟨r,rfl,hr⟩,hb⟩
 have HR:=jq hr
 have HB:=jq hb
 clear hr hb HC
 go_wp2_with fail
 exact jr (v:=.bool (decide (0<=r))) (by simp[results,Tryz.results138,go_sem]) rfl ⟨by rw[HR.out],HB.out⟩
theorem not_fn {W:World}{b:Nat}{g:FuncId}{a:FnV}{q:FnV->Bool}(ho:FnOk W a)(hk:Stab.FnOk Tryz.prog g)(hb:W.heap[b]? = some (.cells #[.func (.func g) #[] #[]] 138 (0,0)))(hg:∀W',Below W.heap.size W W'->Calls Tryz.prog g #[.agg #[a.2.1,a.2.2]] W' fun e W2=>e= .returned (.bool (q a))/\Below W'.heap.size W' W2):
  Calls Tryz.prog 139 (#[.agg #[a.2.1,a.2.2]] ++ #[.pointer (some ⟨b,0,none⟩)]) W fun e W'=>e= .returned (.bool (!(q a)))/\Below W.heap.size W W':=by
 have hrun:=run_k hk
 have HBN:=jq (zaB W (.cells #[a.2.1,a.2.2] 51))
 have HG:=jq (hg _ HBN.out)
 have c0:=(zaA hb 0).1
 have bl:=jl hb
 simp only[List.getElem?_toArray,List.getElem?_cons_zero] at c0
 generalize q a=r at *
 clear hb hg
 show Calls _ _ #[.agg #[a.2.1,a.2.2],.pointer (some ⟨b,0,none⟩)] _ _
 obtain⟨P1,n1,c1,Q1,m1,d1,e1,e2⟩:=fn_form ho
 rw[e1,e2] at HG HBN ⊢
 clear ho e1 e2
 go_enter Tryz.func139,Tryz.ntmps139
 go_wp2_with fail
 refine HG.out.mono ?_
 rintro e w1 ⟨rfl,hb⟩
 have HB1:=jq (HBN.out.trans (hb.mono HBN.out.size))
 clear hb HG c0 bl
 go_wp2_with fail
 exact jr (v:=.bool (!r)) (by simp[results,Tryz.results139,go_sem]) rfl ⟨rfl,HB1.out⟩
theorem are_fn {L:List FnV}{v:Value}{w:World}{g:FuncId}{q:FnV->Bool}(hx:Row elF w v L)(hk:Stab.FnOk Tryz.prog g)(hg:∀W a,a∈L->Below w.heap.size w W->Calls Tryz.prog g #[.agg #[a.2.1,a.2.2]] W fun e W'=>e= .returned (.bool (q a))/\Below W.heap.size W W'):
  Calls Tryz.prog 106 #[v,.func (.func g) #[] #[]] w fun e w'=>e= .returned (.bool (L.all q))/\Below w.heap.size w w':=by
 have HBN:=jq (zaB w (.cells #[.func (.func g) #[] #[]] 138))
 have HZ:=jq (zaC w (.cells #[.func (.func g) #[] #[]] 138))
 have HC:=jq (con_fn (f:=139) (caps:=#[.pointer (some ⟨w.heap.size,0,none⟩)]) (p:=fun a=>!(q a)) (hx.keep HBN.out) ⟨_,Tryz.func139,by kernel_rfl,by kernel_rfl⟩ (fun W a ha hW=>not_fn (elF.stay (hx.2 a ha) (HBN.out.trans (hW.mono HBN.out.size))) hk (blk HZ.out hW) (fun W' hW'=>hg W' a ha ((HBN.out.trans (hW.mono HBN.out.size)).trans (hW'.mono (Nat.le_trans HBN.out.size hW.size))))))
 rw[<- any_all]
 generalize (L.any fun a=>!(q a))=r at *
 obtain⟨A,c,rfl,_⟩:=hx.form
 generalize L.length=n at *
 clear hx hg
 go_enter Tryz.func106,Tryz.ntmps106
 go_wp2_with fail
 refine HC.out.mono ?_
 rintro e w1 ⟨rfl,hb⟩
 have HB1:=jq (HBN.out.trans (hb.mono HBN.out.size))
 clear hb HC
 go_wp2_with fail
 exact jr (v:=.bool (!r)) (by simp[results,Tryz.results106,go_sem]) rfl ⟨rfl,HB1.out⟩
theorem idx_glob {L:List (Int×Bool)}{v:Value}{w:World}{f:FuncId}{caps:Array Value}{p:(Int×Bool)->Bool}(hx:Row elGP w v L)(hk:Stab.FnOk Tryz.prog f)(hf:∀W a,a∈L->Below w.heap.size w W->Calls Tryz.prog f (#[.agg #[.int .u8 a.1,.bool a.2]] ++ caps) W fun e W'=>e= .returned (.bool (p a))/\Below W.heap.size W W'):
  Calls Tryz.prog 165 #[v,.func (.func f) #[] caps] w fun e w'=>(∃r:Int,e= .returned (.int .i64 r)/\decide (0<=r)=L.any p)/\Below w.heap.size w w':=by
 obtain⟨A,c,rfl,hc,hm⟩:=hx.form
 have hrun:=run_k hk
 obtain⟨n,hn⟩:∃n,L.length=n:=⟨_,rfl⟩
 rw[hn] at hx hc ⊢
 have N1:=jq hn
 have HX:=jq hx
 have HF:=jq hf
 have hbig:n<=9223372036854775807:=by omega
 clear hn hx hc hm hf
 go_enter Tryz.func165,Tryz.ntmps165
 go_wp2_with fail
 go_loopw [8] (fun j' wr=>∃k:Nat,j'= .int .i64 (k:Int)/\k<=n/\(L.take k).any p=false/\Below w.heap.size w wr) (fun j' _=>n - (intOf j').toNat)
 case atStart=>exact ⟨0,by go_num,Nat.zero_le _,rfl,Below.refl _ _⟩
 case round=>
  obtain⟨k,rfl,hk,ht,hb⟩:=hrel
  have HT:=jq ht
  have HB:=jq hb
  clear ht hb
  by_cases hlt:k<n
  ·obtain ⟨a,ha⟩:∃a,L[k]? = some a:=⟨_,List.getElem?_eq_getElem (by rw[N1.out];exact hlt)⟩
   obtain⟨g,off,rfl,hg,hA,hok⟩:=(HX.out.keep HB.out).at_ ha
   have c0:=hA 0 _ rfl
   have c1:=hA 1 _ rfl
   simp only[Nat.add_zero] at c0
   obtain⟨q0,hq⟩:∃q0,off+k*elGP.s=q0:=⟨_,rfl⟩
   rw[hq] at c0 c1
   have hq:off+k*2=q0:=hq
   have hin1:(0:Int)<=(k:Int):=by omega
   have hin2:(k:Int)<(n:Int):=by omega
   have hw1:IntKind.i64.wrap ((k:Int)+1)=(k:Int)+1:=IntWalk.i64_in _ (by omega)
   have HC:=jq (HF.out wr a (List.mem_of_getElem? ha) HB.out)
   cases hq:p a with
   | true=>
    rw[hq] at HC
    have HQ:Hid (decide (0<=(k:Int))=L.any p):=by
     show _=_
     rw[decide_eq_true hin1,any_in ha hq]
    clear hq ha hA hok hg
    go_wp2_with fail
    refine HC.out.mono ?_
    rintro e w1 ⟨rfl,hb⟩
    have HB1:=jq (HB.out.trans (hb.mono HB.out.size))
    clear hb c0 c1
    go_wp2_with fail
    exact jr (v:=.int .i64 (k:Int)) (by simp[results,Tryz.results165,go_sem]) rfl ⟨⟨_,rfl,HQ.out⟩,HB1.out⟩
   | false=>
    rw[hq] at HC
    have HQ:Hid ((L.take (k+1)).any p=false):=by
     show _=_
     rw[any_take ha HT.out,hq]
    clear hq ha hA hok hg
    go_wp2_with fail
    refine HC.out.mono ?_
    rintro e w1 ⟨rfl,hb⟩
    have HB1:=jq (HB.out.trans (hb.mono HB.out.size))
    clear hb c0 c1
    go_wp2_with fail
    go_roundw
    case rel=>exact ⟨k+1,by go_num,hlt,HQ.out,HB1.out⟩
    case measure=>simp[intOf];omega
  ·obtain rfl:k=n:=by omega
   have HQ:Hid (decide (0<=(-1:Int))=L.any p):=by
    show _=_
    rw[decide_eq_false (by decide),<- HT.out,List.take_of_length_le (by rw[N1.out];exact Nat.le_refl _)]
   go_wp2_with fail
   exact jr (v:=.int .i64 (-1)) (by simp[results,Tryz.results165,go_sem]) rfl ⟨⟨_,rfl,HQ.out⟩,HB.out⟩
theorem con_glob {L:List (Int×Bool)}{v:Value}{w:World}{f:FuncId}{caps:Array Value}{p:(Int×Bool)->Bool}(hx:Row elGP w v L)(hk:Stab.FnOk Tryz.prog f)(hf:∀W a,a∈L->Below w.heap.size w W->Calls Tryz.prog f (#[.agg #[.int .u8 a.1,.bool a.2]] ++ caps) W fun e W'=>e= .returned (.bool (p a))/\Below W.heap.size W W'):
  Calls Tryz.prog 141 #[v,.func (.func f) #[] caps] w fun e w'=>e= .returned (.bool (L.any p))/\Below w.heap.size w w':=by
 have HC:=jq (idx_glob hx hk hf)
 obtain⟨A,c,rfl,_⟩:=hx.form
 generalize L.any p=q at HC ⊢
 generalize L.length=n at *
 clear hx hf
 go_enter Tryz.func141,Tryz.ntmps141
 go_wp2_with fail
 refine HC.out.mono ?_
 rintro e w1 ⟨⟨r,rfl,hr⟩,hb⟩
 have HR:=jq hr
 have HB:=jq hb
 clear hr hb HC
 go_wp2_with fail
 exact jr (v:=.bool (decide (0<=r))) (by simp[results,Tryz.results141,go_sem]) rfl ⟨by rw[HR.out],HB.out⟩
theorem not_glob {W:World}{b:Nat}{g:FuncId}{a:(Int×Bool)}{q:(Int×Bool)->Bool}(hk:Stab.FnOk Tryz.prog g)(hb:W.heap[b]? = some (.cells #[.func (.func g) #[] #[]] 162 (0,0)))(hg:∀W',Below W.heap.size W W'->Calls Tryz.prog g #[.agg #[.int .u8 a.1,.bool a.2]] W' fun e W2=>e= .returned (.bool (q a))/\Below W'.heap.size W' W2):
  Calls Tryz.prog 142 (#[.agg #[.int .u8 a.1,.bool a.2]] ++ #[.pointer (some ⟨b,0,none⟩)]) W fun e W'=>e= .returned (.bool (!(q a)))/\Below W.heap.size W W':=by
 have hrun:=run_k hk
 have HBN:=jq (zaB W (.cells #[.int .u8 a.1,.bool a.2] 82))
 have HG:=jq (hg _ HBN.out)
 have c0:=(zaA hb 0).1
 have bl:=jl hb
 simp only[List.getElem?_toArray,List.getElem?_cons_zero] at c0
 generalize q a=r at *
 clear hb hg
 show Calls _ _ #[.agg #[.int .u8 a.1,.bool a.2],.pointer (some ⟨b,0,none⟩)] _ _
 go_enter Tryz.func142,Tryz.ntmps142
 go_wp2_with fail
 refine HG.out.mono ?_
 rintro e w1 ⟨rfl,hb⟩
 have HB1:=jq (HBN.out.trans (hb.mono HBN.out.size))
 clear hb HG c0 bl
 go_wp2_with fail
 exact jr (v:=.bool (!r)) (by simp[results,Tryz.results142,go_sem]) rfl ⟨rfl,HB1.out⟩
theorem are_glob {L:List (Int×Bool)}{v:Value}{w:World}{g:FuncId}{q:(Int×Bool)->Bool}(hx:Row elGP w v L)(hk:Stab.FnOk Tryz.prog g)(hg:∀W a,a∈L->Below w.heap.size w W->Calls Tryz.prog g #[.agg #[.int .u8 a.1,.bool a.2]] W fun e W'=>e= .returned (.bool (q a))/\Below W.heap.size W W'):
  Calls Tryz.prog 109 #[v,.func (.func g) #[] #[]] w fun e w'=>e= .returned (.bool (L.all q))/\Below w.heap.size w w':=by
 have HBN:=jq (zaB w (.cells #[.func (.func g) #[] #[]] 162))
 have HZ:=jq (zaC w (.cells #[.func (.func g) #[] #[]] 162))
 have HC:=jq (con_glob (f:=142) (caps:=#[.pointer (some ⟨w.heap.size,0,none⟩)]) (p:=fun a=>!(q a)) (hx.keep HBN.out) ⟨_,Tryz.func142,by kernel_rfl,by kernel_rfl⟩ (fun W a ha hW=>not_glob hk (blk HZ.out hW) (fun W' hW'=>hg W' a ha ((HBN.out.trans (hW.mono HBN.out.size)).trans (hW'.mono (Nat.le_trans HBN.out.size hW.size))))))
 rw[<- any_all]
 generalize (L.any fun a=>!(q a))=r at *
 obtain⟨A,c,rfl,_⟩:=hx.form
 generalize L.length=n at *
 clear hx hg
 go_enter Tryz.func109,Tryz.ntmps109
 go_wp2_with fail
 refine HC.out.mono ?_
 rintro e w1 ⟨rfl,hb⟩
 have HB1:=jq (HBN.out.trans (hb.mono HBN.out.size))
 clear hb HC
 go_wp2_with fail
 exact jr (v:=.bool (!r)) (by simp[results,Tryz.results109,go_sem]) rfl ⟨rfl,HB1.out⟩
theorem isv_any (x:Int)(w:World):Calls Tryz.prog 108 #[.int .u8 x] w fun e w'=>e= .returned (.bool (isV x))/\Below w.heap.size w w':=by
 unfold isV
 cases hx:(x == 127) <;> cases hy:(x == 126)
 all_goals (
  go_enter Tryz.func108,Tryz.ntmps108
  go_wp2_with fail
  first
  | exact jr (v:=.bool true) (by simp[results,Tryz.results108,go_sem]) rfl ⟨rfl,Below.refl _ _⟩
  | exact jr (v:=.bool false) (by simp[results,Tryz.results108,go_sem]) rfl ⟨rfl,Below.refl _ _⟩)
theorem isg_any (a:Int×Bool)(w:World):Calls Tryz.prog 110 #[.agg #[.int .u8 a.1,.bool a.2]] w fun e w'=>e= .returned (.bool (isV a.1))/\Below w.heap.size w w':=by
 obtain⟨v,m⟩:=a
 have HBN:=jq (zaB w (.cells #[.int .u8 v,.bool m] 82))
 have HC:=jq (isv_any v (w.alloc (.cells #[.int .u8 v,.bool m] 82)))
 simp only
 generalize isV v=q at *
 go_enter Tryz.func110,Tryz.ntmps110
 go_wp2_with fail
 refine HC.out.mono ?_
 rintro e w1 ⟨rfl,hb⟩
 have HB1:=jq (HBN.out.trans (hb.mono HBN.out.size))
 clear hb HC
 go_wp2_with fail
 exact jr (v:=.bool q) (by simp[results,Tryz.results110,go_sem]) rfl ⟨rfl,HB1.out⟩
theorem sl_of {w:World}{v:Value}{l:List Int}(h:Row elB w v l):Typ.Sl w v l:=by
 obtain⟨A,c,rfl,h2,h3⟩:=h.form
 refine⟨A,c,rfl,h2,h3,fun h0=>?_⟩
 obtain⟨g,off,rfl,hg,_⟩:=byte_at h (j:=0) (List.length_pos_iff.2 h0)
 refine⟨g,off,rfl,hg,rfl,fun j hj=>?_⟩
 obtain⟨g',off',e,_,hc,hr⟩:=byte_at h hj
 simp only[Option.some.injEq,Addr.mk.injEq,and_true] at e
 obtain⟨rfl,rfl⟩:=e
 first | exact hc | exact ⟨hc,hr⟩
theorem tsane_any {w:World}{a:FnV}(h:FnOk w a)(h1:a.1.1.length<=1000)(h2:a.1.2.length<=1000):Calls Tryz.prog 105 #[.agg #[a.2.1,a.2.2]] w fun e w'=>e= .returned (.bool (Typ.sane a.1.1 a.1.2))/\Below w.heap.size w w':=
 Typ.sane_any _ _ _ _ w (sl_of h.1) (sl_of h.2) (by omega) (by omega)
def saneE (E:EnvP):Bool:=Typ.sane [] E.results && E.types.all (fun p=>Typ.sane p.1 p.2) && E.locals.all isV && E.globs.all (fun p=>isV p.1)
theorem isSane_any {w:World}{V:EV}{E:EnvP}(h:EnvOk elGP w V E)(hB:FnBd E):Calls Tryz.prog 77 #[evV V E] w fun e w'=>e= .returned (.bool (saneE E))/\Below w.heap.size w w':=by
 obtain⟨⟨ts,hts,hmt⟩,hf,hg,hl,hr,_⟩:=h
 obtain⟨types,funcs,tables,mems,globs,locals,ress⟩:=E
 obtain⟨Pt,nt,ct,Pf,nf,cf,Pg,ng,cg,Pl,nl,cl,Pr,nr,cr⟩:=V
 simp only at hts hmt hf hg hl hr
 subst hmt
 have HBN:=jq (zaB w (.cells #[.slice Pt nt ct,.slice Pf nf cf,.int .i64 tables,.int .i64 mems,.slice Pg ng cg,.slice Pl nl cl,.slice Pr nr cr] 45))
 have HX:=jq (zaC w (.cells #[.slice Pt nt ct,.slice Pf nf cf,.int .i64 tables,.int .i64 mems,.slice Pg ng cg,.slice Pl nl cl,.slice Pr nr cr] 45))
 have HTS:=jq (hts.keep HBN.out)
 have HG:=jq (hg.keep HBN.out)
 have HL:=jq (hl.keep HBN.out)
 have HR:=jq (hr.keep HBN.out)
 have HTB:Hid (∀p∈ts,p.1.1.length<=1000/\p.1.2.length<=1000):=fun p hp=>hB.1 p.1 (List.mem_map_of_mem hp)
 have HRB:Hid (ress.length<=1000):=hB.2
 have HE:Hid (saneE ⟨ts.map (·.1),funcs,tables,mems,globs,locals,ress⟩=(Typ.sane [] ress && ts.all (fun p=>Typ.sane p.1.1 p.1.2) && locals.all isV && globs.all (fun p=>isV p.1))):=by
  show _=_
  unfold saneE
  simp only[List.all_map]
  rfl
 rw[HE.out]
 rw[show evV ⟨Pt,nt,ct,Pf,nf,cf,Pg,ng,cg,Pl,nl,cl,Pr,nr,cr⟩ ⟨ts.map (·.1),funcs,tables,mems,globs,locals,ress⟩= .agg #[.slice Pt nt ct,.slice Pf nf cf,.int .i64 tables,.int .i64 mems,.slice Pg ng cg,.slice Pl nl cl,.slice Pr nr cr] from rfl]
 obtain⟨q1,hq1⟩:∃q,Typ.sane [] ress=q:=⟨_,rfl⟩
 obtain⟨q2,hq2⟩:∃q,ts.all (fun p=>Typ.sane p.1.1 p.1.2)=q:=⟨_,rfl⟩
 obtain⟨q3,hq3⟩:∃q,locals.all isV=q:=⟨_,rfl⟩
 obtain⟨q4,hq4⟩:∃q,globs.all (fun p=>isV p.1)=q:=⟨_,rfl⟩
 have H1:=jq (Typ.sane_any (.slice none 0 0) (.slice Pr nr cr) [] ress _ (Typ.Sl.nil _) (sl_of HR.out) (by simp) (by have:=HRB.out;omega))
 have H2:=jq (fun W (hW:Below (w.alloc (.cells #[.slice Pt nt ct,.slice Pf nf cf,.int .i64 tables,.int .i64 mems,.slice Pg ng cg,.slice Pl nl cl,.slice Pr nr cr] 45)).heap.size (w.alloc (.cells #[.slice Pt nt ct,.slice Pf nf cf,.int .i64 tables,.int .i64 mems,.slice Pg ng cg,.slice Pl nl cl,.slice Pr nr cr] 45)) W)=>are_fn (g:=105) (q:=fun p=>Typ.sane p.1.1 p.1.2) (HTS.out.keep hW) ⟨_,Tryz.func105,by kernel_rfl,by kernel_rfl⟩ (fun W' a ha hW'=>tsane_any ((HTS.out.keep (hW.trans (hW'.mono hW.size))).2 a ha) (HTB.out a ha).1 (HTB.out a ha).2))
 have H3:=jq (fun W (hW:Below (w.alloc (.cells #[.slice Pt nt ct,.slice Pf nf cf,.int .i64 tables,.int .i64 mems,.slice Pg ng cg,.slice Pl nl cl,.slice Pr nr cr] 45)).heap.size (w.alloc (.cells #[.slice Pt nt ct,.slice Pf nf cf,.int .i64 tables,.int .i64 mems,.slice Pg ng cg,.slice Pl nl cl,.slice Pr nr cr] 45)) W)=>are_byte (g:=108) (q:=isV) (HL.out.keep hW) ⟨_,Tryz.func108,by kernel_rfl,by kernel_rfl⟩ (fun W' a ha hW'=>isv_any a W'))
 have H4:=jq (fun W (hW:Below (w.alloc (.cells #[.slice Pt nt ct,.slice Pf nf cf,.int .i64 tables,.int .i64 mems,.slice Pg ng cg,.slice Pl nl cl,.slice Pr nr cr] 45)).heap.size (w.alloc (.cells #[.slice Pt nt ct,.slice Pf nf cf,.int .i64 tables,.int .i64 mems,.slice Pg ng cg,.slice Pl nl cl,.slice Pr nr cr] 45)) W)=>are_glob (g:=110) (q:=fun p=>isV p.1) (HG.out.keep hW) ⟨_,Tryz.func110,by kernel_rfl,by kernel_rfl⟩ (fun W' a ha hW'=>isg_any a W'))
 rw[hq1] at H1
 rw[hq2] at H2
 rw[hq3] at H3
 rw[hq4] at H4
 rw[hq1,hq2,hq3,hq4]
 clear hts hf hg hl hr hB hq1 hq2 hq3 hq4 HTS HG HL HR HTB HE
 have b0:=(zaA HX.out 0).1
 have b4:=(zaA HX.out 4).1
 have b5:=(zaA HX.out 5).1
 have b6:=(zaA HX.out 6).1
 simp only[List.getElem?_toArray,List.getElem?_cons_zero,List.getElem?_cons_succ] at b0 b4 b5 b6
 go_enter Tryz.func77,Tryz.ntmps77
 go_wp2_with fail
 clear b0 b4 b5 b6
 generalize w.alloc (.cells #[.slice Pt nt ct,.slice Pf nf cf,.int .i64 tables,.int .i64 mems,.slice Pg ng cg,.slice Pl nl cl,.slice Pr nr cr] 45)=w0 at *
 obtain⟨y,hy⟩:∃y,w.heap.size=y:=⟨_,rfl⟩
 rw[hy] at HX
 simp only[hy]
 clear hy
 refine H1.out.mono ?_
 rintro e w1 ⟨rfl,hb1⟩
 have HB1:=jq hb1
 clear hb1
 have b0:=(zaA (blk HX.out HB1.out) 0).1
 simp only[List.getElem?_toArray,List.getElem?_cons_zero] at b0
 cases q1 with
 | false=>
  go_wp2_with fail
  exact jr (v:=.bool false) (by simp[results,Tryz.results77,go_sem]) rfl ⟨rfl,HBN.out.trans (HB1.out.mono HBN.out.size)⟩
 | true=>
  go_wp2_with fail
  clear b0
  refine(H2.out w1 HB1.out).mono ?_
  rintro e w2 ⟨rfl,hb2⟩
  have HB2:=jq (HB1.out.trans (hb2.mono HB1.out.size))
  clear hb2
  have b5:=(zaA (blk HX.out HB2.out) 5).1
  simp only[List.getElem?_toArray,List.getElem?_cons_zero,List.getElem?_cons_succ] at b5
  cases q2 with
  | false=>
   go_wp2_with fail
   exact jr (v:=.bool false) (by simp[results,Tryz.results77,go_sem]) rfl ⟨rfl,HBN.out.trans (HB2.out.mono HBN.out.size)⟩
  | true=>
   go_wp2_with fail
   clear b5
   refine(H3.out w2 HB2.out).mono ?_
   rintro e w3 ⟨rfl,hb3⟩
   have HB3:=jq (HB2.out.trans (hb3.mono HB2.out.size))
   clear hb3
   have b4:=(zaA (blk HX.out HB3.out) 4).1
   simp only[List.getElem?_toArray,List.getElem?_cons_zero,List.getElem?_cons_succ] at b4
   cases q3 with
   | false=>
    go_wp2_with fail
    exact jr (v:=.bool false) (by simp[results,Tryz.results77,go_sem]) rfl ⟨rfl,HBN.out.trans (HB3.out.mono HBN.out.size)⟩
   | true=>
    go_wp2_with fail
    clear b4
    refine(H4.out w3 HB3.out).mono ?_
    rintro e w4 ⟨rfl,hb4⟩
    have HB4:=jq (HB3.out.trans (hb4.mono HB3.out.size))
    clear hb4
    go_wp2_with fail
    exact jr (v:=.bool q4) (by simp[results,Tryz.results77,go_sem]) rfl ⟨rfl,HBN.out.trans (HB4.out.mono HBN.out.size)⟩
theorem take_8 {w:World}{k:Nat}{V:EV}{E:EnvP}{s:Stk}{op A B K:Int}{LL:List Int}{lab:Value}(h:Cx w k V E (.ok s))(hb:Bd (.ok s) 300000)(hf:FnBd E)(hl:LabAt w k lab LL)(hu:Ints.u64R K)(hT:Ins.KTab w)(hA:Ins.ATab w)(hk:Ins.kd op=8)(hs:Ins.saneI ⟨op,A,B,K,LL⟩=true):Calls Tryz.prog 27 #[.pointer (some ⟨k,0,none⟩),.agg #[.int .i64 op,.int .i64 A,.int .i64 B,.int .u64 K,lab]] w (CkEnds w k V E (pushR [127] (.ok s)) (.tuple #[])):=by
 have HB0:=jq hb
 have HFB:=jq hf
 have HKQ:=jq hk
 have HL0:=jq (hl.keep (zaB w (oJ op A B K lab)))
 have HKT:=jq (hT.keep (zaB w (oJ op A B K lab)))
 have HAT:=jq (hA.keep (zaB w (oJ op A B K lab)))
 have HBT:Hid (But k w (w.alloc (oJ op A B K lab))):=But.of_below (zaB w (oJ op A B K lab))
 have HCK:=jq (h.keep (zaB w (oJ op A B K lab)))
 have HX:=jq (zaC w (oJ op A B K lab))
 have HSN:=jq (Ins.psane_any (x:=⟨op,A,B,K,LL⟩) (o:=lab) HL0.out.sl hu HKT.out)
 rw[hs] at HSN
 rw[show Ins.iv ⟨op,A,B,K,LL⟩ lab= .agg #[.int .i64 op,.int .i64 A,.int .i64 B,.int .u64 K,lab] from rfl] at HSN
 have HKD:=jq (fun W (hW:Ins.KTab W)=>Ins.kind_any op W hW)
 rw[hk] at HKD
 clear h hb hf hl hu hT hA hk hs
 obtain⟨b0,b1,b2,b3,b4⟩:_/\_/\_/\_/\_:=⟨(zaA HX.out 0).1,(zaA HX.out 1).1,(zaA HX.out 2).1,(zaA HX.out 3).1,(zaA HX.out 4).1⟩
 simp only[List.getElem?_toArray,List.getElem?_cons_zero,List.getElem?_cons_succ] at b0 b1 b2 b3 b4
 go_enter Tryz.func27,Tryz.ntmps27
 go_wp2_with fail
 clear b0 b1 b2 b3 b4
 generalize w.alloc (oJ op A B K lab)=u0 at *
 obtain⟨y,hy⟩:∃y,w.heap.size=y:=⟨_,rfl⟩
 rw[hy] at HX
 simp only[hy]
 clear hy
 refine HSN.out.mono ?_
 rintro e w1 ⟨rfl,hb⟩
 have HX1:=jq (blk HX.out hb)
 have HDw:=jq (hb.trans ((zaI w1).mono hb.size))
 have HCF:=jq (HCK.out.keep HDw.out)
 have HLF:=jq (HL0.out.keep HDw.out)
 have HTF:=jq (HAT.out.keep HDw.out)
 have HKF:=jq (HKD.out w1.drew (HKT.out.keep HDw.out))
 have HSF:=jq (stepOf_8 w1.drew)
 have HBF:=jq (HBT.out.trans (But.of_below HDw.out))
 obtain⟨b0,b1,b2,b3,b4⟩:_/\_/\_/\_/\_:=⟨(zaA HX1.out 0).1,(zaA HX1.out 1).1,(zaA HX1.out 2).1,(zaA HX1.out 3).1,(zaA HX1.out 4).1⟩
 simp only[List.getElem?_toArray,List.getElem?_cons_zero,List.getElem?_cons_succ] at b0 b1 b2 b3 b4
 clear hb HSN
 go_wp2_with fail
 go_region_law (first
  | (go_simp;go_at_call 61;(with_reducible refine Calls.mono HKF.out ?_);rintro e w2 ⟨rfl,hw2⟩;obtain rfl:=hw2)
  | (go_simp;go_at_call 60;(with_reducible refine Calls.mono HSF.out ?_);rintro e w3 ⟨rfl,hw3⟩;obtain rfl:=hw3)
  | (go_simp;go_at_call 100;refine Calls.mono (const32_ck HCF.out HB0.out) ?_;rintro e w4 ⟨rfl,hc,hbt⟩;have HBT4:=jq (HBF.out.trans hbt);have HCK4:=jq hc;clear hc hbt))
 all_goals (
  clear b0 b1 b2 b3 b4
  go_wp2_with fail
  exact bodyPost_end (v:=.tuple #[]) (by simp[results,Tryz.results27,go_sem]) rfl ⟨rfl,HCK4.out,HBT4.out⟩)
end Go.Proofs.YtlappkflnlbfcaaGreatDoor.Chk
