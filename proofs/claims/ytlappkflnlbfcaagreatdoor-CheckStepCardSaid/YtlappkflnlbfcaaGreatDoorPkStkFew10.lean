/- StkFew10. -/
import Derived.Test.YtlappkflnlbfcaaGreatDoorPkStkRKill
section
namespace Go.Proofs.YtlappkflnlbfcaaGreatDoor.Stk
open Lib (hid)
open Go.RowKit Row9
set_option maxRecDepth 100000
set_option maxHeartbeats 4000000
set_option linter.unusedVariables false
def fewS (s:Stk):Bool:=decide (s.vals.length<=200) && decide (s.cs.length<=60) && s.cs.all fun c=>decide (c.fin.length<=20)
theorem few10_any {v:Value}{s:Stk}{w:World}(h:StIs elD w v s):
  Calls Tryz.prog 11 #[v] w fun e w'=>e= .returned (.bool (fewS s))/\Below w.heap.size w w':=by
 obtain⟨P,np,cp,Q,m,d,rfl⟩:=StIs.form (T:=elD) h
 obtain⟨l,hrb,hrc,hml,hnv,hnl,hnc⟩:=h.rows
 have HW:=hid (zaB w (.cells #[.slice P np cp,.slice Q m d] 30))
 have HX:=hid (zaC w (.cells #[.slice P np cp,.slice Q m d] 30))
 have HC:=hid (hrc.keep HW.out)
 have HML:=hid hml
 have HNL:=hid hnl
 obtain⟨R,hR⟩:∃R,fewS s=R:=⟨_,rfl⟩
 have HRR:=hid hR
 rw[hR]
 have hsm:fewS s=(decide (np<=200) && decide (m<=60) && s.cs.all fun c=>decide (c.fin.length<=20)):=by unfold fewS;rw[hnv,hnc]
 rw[hR] at hsm
 have HSM:=hid hsm
 clear h hrb hrc hml hnv hnl hnc hR hsm
 by_cases hn:200<np
 ·have t1:decide ((200:Int)<(np:Int))=true:=decide_eq_true (by omega)
  have HQ:Hid (R=false):=by show _=_;rw[HSM.out,decide_eq_false (by omega)];simp
  go_enter Tryz.func11,Tryz.ntmps11
  go_wp2_with fail
  all_goals first
   | exact absurd (by assumption) (undef_ne _)
   | exact bodyPost_ret (v:=.bool false) (by simp[results,Tryz.results11,go_sem]) rfl ⟨by rw[HQ.out],HW.out⟩
 ·have t1:decide ((200:Int)<(np:Int))=false:=decide_eq_false (by omega)
  by_cases hm:60<m
  ·have t2:decide ((60:Int)<(m:Int))=true:=decide_eq_true (by omega)
   have HQ:Hid (R=false):=by show _=_;rw[HSM.out,decide_eq_false (show ¬ m<=60 by omega)];simp
   go_enter Tryz.func11,Tryz.ntmps11
   go_wp2_with fail
   exact bodyPost_ret (v:=.bool false) (by simp[results,Tryz.results11,go_sem]) rfl ⟨by rw[HQ.out],HW.out⟩
  ·have t2:decide ((60:Int)<(m:Int))=false:=decide_eq_false (by omega)
   have HQ0:Hid (R=s.cs.all fun c=>decide (c.fin.length<=20)):=by show _=_;rw[HSM.out,decide_eq_true (show np<=200 by omega),decide_eq_true (show m<=60 by omega)];simp
   go_enter Tryz.func11,Tryz.ntmps11
   go_wp2_with fail
   generalize w.alloc (.cells #[.slice P np cp,.slice Q m d] 30)=w1 at *
   obtain⟨x,hx⟩:∃x,w.heap.size=x:=⟨_,rfl⟩
   rw[hx] at HX
   simp only[hx]
   obtain⟨x0,x1⟩:=zaH HX.out
   have hxl:x<w1.heap.size:=lt_of_heap HX.out
   clear hx
   go_loopw [3] (fun i' wr=>∃i:Nat,i'= .int .i64 (i:Int)/\i<=m/\wr=w1/\(∀j p,j<i->l[j]? = some p->p.1.fin.length<=20)) (fun i' _=>m - (intOf i').toNat)
   case atStart=>exact ⟨0,by go_num,Nat.zero_le _,rfl,fun j p hj=>absurd hj (by omega)⟩
   case round=>
    obtain⟨i,rfl,hi,hwr,hs⟩:=hrel
    obtain rfl:w1=wr:=hwr.symm
    have HSi:=hid hs
    clear hs
    by_cases hlt:i<m
    ·obtain ⟨p,hp⟩:∃p,l[i]? = some p:=⟨_,List.getElem?_eq_getElem (by rw[HNL.out];exact hlt)⟩
     obtain⟨g,off,rfl,hg,k0,k1,k2,k3,hO⟩:=ctl_at HC.out hp
     obtain⟨Pe,ce,hpe,_⟩:=hO.1.form
     obtain⟨ne,hne⟩:∃ne,p.1.fin.length=ne:=⟨_,rfl⟩
     rw[hne] at hpe
     rw[hpe] at k1
     have i1:(0:Int)<=(i:Int):=by omega
     have i2:(i:Int)<(m:Int):=by omega
     have hw1:IntKind.i64.wrap ((i:Int)+1)=(i:Int)+1:=IntWalk.i64_in _ (by omega)
     obtain⟨qq,hqq⟩:∃qq,off+i*4=qq:=⟨_,rfl⟩
     rw[hqq] at k0 k1 k2 k3
     have HP:=hid hp
     have HNE:=hid hne
     clear hp hO hpe hne hg
     by_cases h20:20<ne
     ·have t5:decide ((20:Int)<(ne:Int))=true:=decide_eq_true (by omega)
      have HQ:Hid (R=false):=by
       show _=_
       rw[HQ0.out,List.all_eq_false]
       exact⟨p.1,by rw[<- HML.out];exact List.mem_map_of_mem (List.mem_of_getElem? HP.out),by simp only[decide_eq_true_eq];rw[HNE.out];omega⟩
      go_wp2_with fail
      exact bodyPost_ret (v:=.bool false) (by simp[results,Tryz.results11,go_sem]) rfl ⟨by rw[HQ.out],HW.out⟩
     ·have t5:decide ((20:Int)<(ne:Int))=false:=decide_eq_false (by omega)
      have HN:Hid (∀j p,j<i+1->l[j]? = some p->p.1.fin.length<=20):=fun j p' hj hp'=>by
       by_cases e:j=i
       ·subst e
        obtain rfl:=Option.some.inj (hp'.symm.trans HP.out)
        rw[HNE.out]
        omega
       ·exact HSi.out j p' (by omega) hp'
      go_wp2_with fail
      go_roundw
      case rel=>exact ⟨i+1,by go_num,hlt,trivial,HN.out⟩
      case measure=>simp[intOf];omega
    ·obtain rfl:i=m:=by omega
     have HQ:Hid (R=true):=by
      show _=_
      rw[HQ0.out,List.all_eq_true]
      intro c hc
      rw[<- HML.out] at hc
      obtain⟨p,hp,rfl⟩:=List.mem_map.1 hc
      obtain⟨j,hj⟩:=List.getElem?_of_mem hp
      have hjl:j<i:=by rw[<- HNL.out];exact(List.getElem?_eq_some_iff.1 hj).1
      exact decide_eq_true (HSi.out j p hjl hj)
     go_wp2_with fail
     exact bodyPost_ret (v:=.bool true) (by simp[results,Tryz.results11,go_sem]) rfl ⟨by rw[HQ.out],HW.out⟩
theorem few10_le {s:Stk}(h:fewS s=true):s.vals.length<=200/\s.cs.length<=60/\∀c∈s.cs,c.fin.length<=20:=by
 unfold fewS at h
 simp only[Bool.and_eq_true,decide_eq_true_eq,List.all_eq_true] at h
 exact⟨h.1.1,h.1.2,h.2⟩
end Go.Proofs.YtlappkflnlbfcaaGreatDoor.Stk
end
