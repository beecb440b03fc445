/- BodMatch, BodFew. -/
import Derived.Test.YtlappkflnlbfcaaGreatDoorPkBodNest
import Derived.Test.YtlappkflnlbfcaaGreatDoorPkBodAround
section
namespace Go.Proofs.YtlappkflnlbfcaaGreatDoor.Bod
open Lib (hid)
open Go.RowKit Ints Typ Ins
set_option maxRecDepth 100000
set_option maxHeartbeats 1000000
set_option linter.unusedVariables false
def MRes (e:Ending)(w:World)(B:Nat):Option (List (Int×Int))->Prop
 | some ms=>∃g,e= .returned (.tuple #[.slice (some ⟨g,0,none⟩) ms.length ms.length,.bool true])/\MAt w B g ms.length ms
 | none=>e= .returned (.tuple #[.slice none 0 0,.bool false])
theorem m2_none {ops : List Int} {k : Nat} (h : m2 ops k = none) : ∀ j, k ≤ j → m2 ops j = none
  | 0, hj => by obtain rfl : k = 0 := by omega
                exact h
  | j + 1, hj => by
    by_cases e : k = j + 1
    · subst e; exact h
    · show (m2 ops j).bind (mst ops j) = none
      rw [m2_none h j (by omega)]
      rfl
theorem m2_next {ops:List Int}{k:Nat}{s:List (Int×Int)×List Bool}(h:m2 ops k=some s):m2 ops (k+1)=mst ops k s:=by
 show (m2 ops k).bind (mst ops k)=_
 rw[h]
 rfl
theorem dM_none {ops:List Int}{k:Nat}(hk:k<=ops.length)(h:m2 ops k=none):dM ops=none:=by
 unfold dM
 rw[m2_none h _ hk]
 rfl
theorem fill_set {n i:Nat}(hi:i<n){α:Type}(a b:α):(List.replicate i a ++ List.replicate (n - i) b).set i a=List.replicate (i+1) a ++ List.replicate (n - (i+1)) b:=by
 rw[List.set_append_right _ _ (by simp),List.length_replicate,Nat.sub_self,show n - i=(n - (i+1))+1 from by omega,List.replicate_succ,List.set_cons_zero,List.replicate_succ',List.append_assoc]
 rfl
theorem dM_yes {ops:List Int}{n:Nat}{ms:List (Int×Int)}{us:List Bool}(hn:ops.length=n)(h:m2 ops n=some (ms,us))(hu:∀q,q<n->(!(ops.getD q 0 == 5 || ops.getD q 0 == 11) || us.getD q false)=true):dM ops=some ms:=by
 subst hn
 have e:usedOk ops us=true:=by
  unfold usedOk
  rw[List.all_eq_true]
  exact fun q hq=>hu q (List.mem_range.1 hq)
 unfold dM
 rw[h,Option.bind_some,if_pos e]
theorem dM_no {ops:List Int}{n:Nat}{ms:List (Int×Int)}{us:List Bool}(hn:ops.length=n)(h:m2 ops n=some (ms,us)){q:Nat}(hq:q<n)(h1:(ops.getD q 0 == 5 || ops.getD q 0 == 11)=true)(h2:us.getD q false=false):dM ops=none:=by
 subst hn
 have e:¬ usedOk ops us=true:=by
  unfold usedOk
  rw[List.all_eq_true]
  intro hh
  have:=hh q (List.mem_range.2 hq)
  rw[h1,h2] at this
  cases this
 unfold dM
 rw[h,Option.bind_some,if_neg e]
theorem rmatches_any {l:List (Ins×Value)}{A:Option Addr}{g off n c:Nat}{w:World}(hn:l.length=n)(hbig:n<=100000)(hA:n≠0->A=some ⟨g,off,none⟩)(hr:InRow w (.slice A n c) l):
  Calls Tryz.prog 48 #[.slice A n c] w fun e w'=>MRes e w' w.heap.size (dM (opsL l))/\Below w.heap.size w w':=by
 obtain⟨W1,g1,hmk1,hM1,hg1,hs1⟩:=make_M w w.heap.size n hbig (Nat.le_refl _)
 obtain⟨W2,g2,hmk2,hU2,hg2,hs2⟩:=make_U W1 w.heap.size n hbig hg1.size
 have hb1:Below w.heap.size w W1:=(Below.refl _ _).grown hg1 (Nat.le_refl _) (fun k hk=>by cases hk)
 have HB2:=hid (hb1.grown hg2 hb1.size (fun k hk=>by cases hk))
 have HM2:Hid (MAt W2 w.heap.size g1 n (List.replicate n (0,0))):=⟨hM1.1,hM1.2.kept hg2 (by simp[Value.ownBlock])⟩
 have HU2:=hid hU2
 have HNE:Hid (g1≠g2):=by
  show _≠_
  have:=hM1.lt
  omega
 have HG1:Hid (w.heap.size<=g1):=hs1
 have HG2:Hid (w.heap.size<=g2):=Nat.le_trans hg1.size hs2
 clear hM1 hU2 hg1 hg2 hs1 hs2 hb1
 have HR:=hid hr
 have HN:=hid hn
 have HA:=hid hA
 clear hr hn hA
 go_enter Tryz.func48,Tryz.ntmps48
 go_wp2_with fail
 clear hmk1 hmk2
 go_loopw [6] (fun i' wr=>∃i:Nat,i'= .int .i64 (i:Int)/\i<=n/\Below w.heap.size w wr/\MAt wr w.heap.size g1 n (List.replicate i (-1,-1) ++ List.replicate (n - i) (0,0))/\UAt wr w.heap.size g2 n (List.replicate n false)) (fun i' _=>n - (intOf i').toNat)
 case atStart=>exact ⟨0,by go_num,by omega,HB2.out,by simpa using HM2.out,HU2.out⟩
 case round=>
  clear HB2 HM2 HU2 W1 W2
  obtain⟨i,rfl,hi,hW,hM,hU⟩:=hrel
  have HW:=hid hW
  have HM:=hid hM
  have HU:=hid hU
  clear hW hM hU
  by_cases hlt:i<n
  ·obtain ⟨⟨⟨x1,hc1⟩,hf1⟩,⟨x2,hc2⟩,hf2⟩:=HM.out.two hlt (.int .i64 (-1))
   have hw1:IntKind.i64.wrap ((i:Int)+1)=(i:Int)+1:=IntWalk.i64_in _ (by omega)
   have hin1:(0:Int)<=(i:Int):=by omega
   have hin2:(i:Int)<(n:Int):=by omega
   go_wp2_with fail
   go_roundw
   case rel=>exact ⟨i+1,by go_num,hlt,(HW.out.setCell HG1.out _).setCell HG1.out _,by rw[<- fill_set hlt];exact HM.out.put i hlt (-1) (-1),(HU.out.other HNE.out.symm _ _).other HNE.out.symm _ _⟩
   case measure=>simp[intOf];omega
  ·obtain rfl:i=n:=by omega
   have HM:=hid (show MAt wr w.heap.size g1 i (List.replicate i (-1,-1)) by simpa using HM.out)
   go_wp2_with fail
   clear hlt
   go_loopw [7] (fun k' wq=>∃ (k:Nat) (ms:List (Int×Int)) (us:List Bool),k'= .int .i64 (k:Int)/\k<=i/\Below w.heap.size w wq/\MAt wq w.heap.size g1 i ms/\UAt wq w.heap.size g2 i us/\m2 (opsL l) k=some (ms,us)) (fun k' _=>i - (intOf k').toNat)
   case atStart=>exact ⟨0,_,_,by go_num,by omega,HW.out,HM.out,HU.out,by show some _=_;rw[opsL_len,HN.out]⟩
   case round=>
    clear HM HW HU
    obtain⟨k,ms,us,rfl,hk,hW,hM,hU,hm⟩:=hrel
    have HW:=hid hW
    have HM:=hid hM
    have HU:=hid hU
    have HMS:=hid hm
    clear hW hM hU hm
    by_cases hlt:k<i
    ·have hA':=HA.out (by omega)
     subst hA'
     obtain⟨p,hp⟩:∃p,l[k]? = some p:=⟨_,List.getElem?_eq_getElem (by rw[HN.out];exact hlt)⟩
     have hOk:=HR.out.2 _ (List.mem_of_getElem? hp)
     obtain⟨PL,cL,hpo,_⟩:=id hOk.1
     have HC:=hid (at_cells (HR.out.keep HW.out) hp)
     have HG:=hid (opsL_get hp)
     have HX:=hid (m2_next HMS.out)
     obtain⟨x,ov⟩:=p
     simp only at hpo
     obtain⟨nL,hnL⟩:∃nL,x.L.length=nL:=⟨_,rfl⟩
     rw[hnL] at hpo
     subst hpo
     clear hOk hp hnL
     obtain⟨q1,q2,q3,q4,q5⟩:=HC.out
     simp only at q1 q2 q3 q4 q5
     have hin1:(0:Int)<=(k:Int):=by omega
     have hin2:(k:Int)<(i:Int):=by omega
     have hw1:IntKind.i64.wrap ((k:Int)+1)=(k:Int)+1:=IntWalk.i64_in _ (by omega)
     by_cases hop:opn x.op=true
     ·have HOP:Hid (∀W,Calls Tryz.prog 79 #[.agg #[.int .i64 x.op,.int .i64 x.A,.int .i64 x.B,.int .u64 x.K,.slice PL nL cL]] W fun e w'=>e= .returned (.bool true)/\Below W.heap.size W w'):=fun W=>by have:=opens_any x.op x.A x.B x.K PL nL cL W;rwa [hop] at this
      have HX:Hid (m2 (opsL l) (k+1)=if (dEnd (opsL l) k).1<0 then none else if 0<=(dEnd (opsL l) k).2 then some ((ms.set k ((dEnd (opsL l) k).2,(dEnd (opsL l) k).1)).set (dEnd (opsL l) k).2.toNat (-1,(dEnd (opsL l) k).1),(us.set (dEnd (opsL l) k).1.toNat true).set (dEnd (opsL l) k).2.toNat true) else some (ms.set k ((dEnd (opsL l) k).2,(dEnd (opsL l) k).1),us.set (dEnd (opsL l) k).1.toNat true)):=by
       show _=_
       have h:=HX.out
       unfold mst at h
       rw[HG.out,if_pos hop] at h
       exact h
      have HE:Hid (∀W,InRow W (.slice (some ⟨g,off,none⟩) i c) l->Calls Tryz.prog 80 #[.slice (some ⟨g,off,none⟩) i c,.int .i64 (k:Int)] W fun e w'=>e= .returned (.tuple #[.int .i64 (dEnd (opsL l) k).1,.int .i64 (dEnd (opsL l) k).2])/\Below W.heap.size W w'):=fun W hW=>end_any HN.out hW k hlt
      have HF:=hid (dEnd_facts (ops:=opsL l) (k:=k) (by rw[opsL_len,HN.out];exact hlt))
      clear hop
      generalize dEnd (opsL l) k=de at HX HE HF
      rcases HF.out with rfl | ⟨e,o,rfl,h1,h2,h3,h4,h5⟩
      ·have HX:=hid (show m2 (opsL l) (k+1)=none by have h:=HX.out;rwa [if_pos (by decide)] at h)
       go_wp2_with fail
       refine(HOP.out _).mono ?_
       rintro e w2 ⟨rfl,hb⟩
       have HW2:=hid (HW.out.trans (hb.mono HW.out.size))
       clear hb q1 q2 q3 q4 q5
       go_wp2_with fail
       refine(HE.out _ (HR.out.keep HW2.out)).mono ?_
       rintro e w3 ⟨rfl,hb⟩
       have HW3:=hid (HW2.out.trans (hb.mono HW2.out.size))
       clear hb
       go_wp2_with fail
       refine bodyPost_ret (v:=.tuple #[.slice none 0 0,.bool false]) (by simp[results,Tryz.results48,go_sem]) rfl ⟨?_,HW3.out⟩
       rw[dM_none (k:=k+1) (by rw[opsL_len,HN.out];exact hlt) HX.out]
       exact rfl
      ·rw[opsL_len,HN.out] at h2
       have HX:=hid (show m2 (opsL l) (k+1)=if 0<=o then some ((ms.set k (o,(e:Int))).set o.toNat (-1,(e:Int)),(us.set e true).set o.toNat true) else some (ms.set k (o,(e:Int)),us.set e true) by
        have h:=HX.out
        rw[if_neg (by simp)] at h
        simpa using h)
       have t1:decide ((e:Int)<0)=false:=decide_eq_false (by omega)
       have hin3:(0:Int)<=(e:Int):=by omega
       have hin4:(e:Int)<(i:Int):=by omega
       by_cases ho:0<=o
       ·obtain ⟨on,rfl⟩:∃on:Nat,o=(on:Int):=⟨o.toNat,by omega⟩
        have HX:=hid (show m2 (opsL l) (k+1)=some ((ms.set k ((on:Int),(e:Int))).set on (-1,(e:Int)),(us.set e true).set on true) by
         have h:=HX.out
         rw[if_pos ho,Int.toNat_natCast] at h
         exact h)
        have t2:decide ((0:Int)<=(on:Int))=true:=decide_eq_true ho
        have hon:on<i:=by omega
        have hin5:(on:Int)<(i:Int):=by omega
        clear h1 h3 h4 h5
        go_wp2_with fail
        refine(HOP.out _).mono ?_
        rintro e' w2 ⟨rfl,hb⟩
        have HW2:=hid (HW.out.trans (hb.mono HW.out.size))
        have HM2:=hid (HM.out.keep hb)
        have HU2:=hid (HU.out.keep hb)
        clear hb q1 q2 q3 q4 q5
        go_wp2_with fail
        refine(HE.out _ (HR.out.keep HW2.out)).mono ?_
        rintro e' w3 ⟨rfl,hb⟩
        have HW3:=hid (HW2.out.trans (hb.mono HW2.out.size))
        have HM3:=hid (HM2.out.keep hb)
        have HU3:=hid (HU2.out.keep hb)
        clear hb
        have HM4:=hid ((HM3.out.put k hlt (on:Int) (e:Int)).other HNE.out e (.bool true))
        have HU4:=hid ((((HU3.out.other HNE.out.symm (k*2) (.int .i64 (on:Int))).other HNE.out.symm (k*2+1) (.int .i64 (e:Int)))).put e true)
        have HMZ:=hid ((HM4.out.put on hon (-1) (e:Int)).other HNE.out on (.bool true))
        have HUZ:=hid ((((HU4.out.other HNE.out.symm (on*2) (.int .i64 (-1))).other HNE.out.symm (on*2+1) (.int .i64 (e:Int)))).put on true)
        have HWZ:=hid (((((((HW3.out.setCell HG1.out (p:=⟨g1,k*2,none⟩) (.int .i64 (on:Int))).setCell HG1.out (p:=⟨g1,k*2+1,none⟩) (.int .i64 (e:Int))).setCell HG2.out (p:=⟨g2,e,none⟩) (.bool true)).setCell HG1.out (p:=⟨g1,on*2,none⟩) (.int .i64 (-1))).setCell HG1.out (p:=⟨g1,on*2+1,none⟩) (.int .i64 (e:Int)))).setCell HG2.out (p:=⟨g2,on,none⟩) (.bool true))
        obtain⟨⟨⟨x1,hc1⟩,hf1⟩,⟨x2,hc2⟩,hf2⟩:=HM3.out.two hlt (.int .i64 (on:Int))
        have HU3a:=hid ((HU3.out.other HNE.out.symm (k*2) (.int .i64 (on:Int))).other HNE.out.symm (k*2+1) (.int .i64 (e:Int)))
        have hc3:=HU3a.out.cell h2
        have hf3:=HU3a.out.free e
        obtain⟨⟨⟨x4,hc4⟩,hf4⟩,⟨x5,hc5⟩,hf5⟩:=HM4.out.two hon (.int .i64 (-1))
        have HU4a:=hid ((HU4.out.other HNE.out.symm (on*2) (.int .i64 (-1))).other HNE.out.symm (on*2+1) (.int .i64 (e:Int)))
        have hc6:=HU4a.out.cell hon
        have hf6:=HU4a.out.free on
        go_wp2_with fail
        go_roundw
        case rel=>exact ⟨k+1,_,_,by go_num,hlt,HWZ.out,HMZ.out,HUZ.out,HX.out⟩
        case measure=>simp[intOf];omega
       ·have HY:=hid (show m2 (opsL l) (k+1)=some (ms.set k (o,(e:Int)),us.set e true) by
         have h:=HX.out
         rwa [if_neg ho] at h)
        clear HX
        have t2:decide ((0:Int)<=o)=false:=decide_eq_false ho
        clear h1 h3 h4 h5
        go_wp2_with fail
        refine(HOP.out _).mono ?_
        rintro e' w2 ⟨rfl,hb⟩
        have HW2:=hid (HW.out.trans (hb.mono HW.out.size))
        have HM2:=hid (HM.out.keep hb)
        have HU2:=hid (HU.out.keep hb)
        clear hb q1 q2 q3 q4 q5
        go_wp2_with fail
        refine(HE.out _ (HR.out.keep HW2.out)).mono ?_
        rintro e' w3 ⟨rfl,hb⟩
        have HW3:=hid (HW2.out.trans (hb.mono HW2.out.size))
        have HM3:=hid (HM2.out.keep hb)
        have HU3:=hid (HU2.out.keep hb)
        clear hb
        have HWZ:=hid (((HW3.out.setCell HG1.out (p:=⟨g1,k*2,none⟩) (.int .i64 o)).setCell HG1.out (p:=⟨g1,k*2+1,none⟩) (.int .i64 (e:Int))).setCell HG2.out (p:=⟨g2,e,none⟩) (.bool true))
        have HMZ:=hid ((HM3.out.put k hlt o (e:Int)).other HNE.out e (.bool true))
        have HUZ:=hid ((((HU3.out.other HNE.out.symm (k*2) (.int .i64 o)).other HNE.out.symm (k*2+1) (.int .i64 (e:Int)))).put e true)
        obtain⟨⟨⟨x1,hc1⟩,hf1⟩,⟨x2,hc2⟩,hf2⟩:=HM3.out.two hlt (.int .i64 o)
        have HU3a:=hid ((HU3.out.other HNE.out.symm (k*2) (.int .i64 o)).other HNE.out.symm (k*2+1) (.int .i64 (e:Int)))
        have hc3:=HU3a.out.cell h2
        have hf3:=HU3a.out.free e
        go_wp2_with fail
        go_roundw
        case rel=>exact ⟨k+1,_,_,by go_num,hlt,HWZ.out,HMZ.out,HUZ.out,HY.out⟩
        case measure=>simp[intOf];omega
     ·have hop:opn x.op=false:=by simpa using hop
      have HOP:Hid (∀W,Calls Tryz.prog 79 #[.agg #[.int .i64 x.op,.int .i64 x.A,.int .i64 x.B,.int .u64 x.K,.slice PL nL cL]] W fun e w'=>e= .returned (.bool false)/\Below W.heap.size W w'):=fun W=>by have:=opens_any x.op x.A x.B x.K PL nL cL W;rwa [hop] at this
      have HX:Hid (m2 (opsL l) (k+1)=some (ms,us)):=by
       show _=_
       have h:=HX.out
       unfold mst at h
       rw[HG.out,hop,if_neg (by decide)] at h
       exact h
      clear hop
      go_wp2_with fail
      refine(HOP.out _).mono ?_
      rintro e w2 ⟨rfl,hb⟩
      have HW2:=hid (HW.out.trans (hb.mono HW.out.size))
      have HM2:=hid (HM.out.keep hb)
      have HU2:=hid (HU.out.keep hb)
      clear hb q1 q2 q3 q4 q5
      go_wp2_with fail
      go_roundw
      case rel=>exact ⟨k+1,ms,us,by go_num,hlt,HW2.out,HM2.out,HU2.out,HX.out⟩
      case measure=>simp[intOf];omega
    ·obtain rfl:k=i:=by omega
     go_wp2_with fail
     clear hlt
     go_loopw [10] (fun j' wq=>∃j:Nat,j'= .int .i64 (j:Int)/\j<=k/\Below w.heap.size w wq/\MAt wq w.heap.size g1 k ms/\UAt wq w.heap.size g2 k us/\∀q,q<j->(!((opsL l).getD q 0 == 5 || (opsL l).getD q 0 == 11) || us.getD q false)=true) (fun j' _=>k - (intOf j').toNat)
     case atStart=>exact ⟨0,by go_num,by omega,HW.out,HM.out,HU.out,fun q hq=>absurd hq (by omega)⟩
     case round=>
      clear HW HM HU
      obtain⟨j,rfl,hj,hW,hM,hU,hall⟩:=hrel
      have HW:=hid hW
      have HM:=hid hM
      have HU:=hid hU
      have HALL:=hid hall
      clear hW hM hU hall
      by_cases hlt:j<k
      ·have hA':=HA.out (by omega)
       subst hA'
       obtain⟨p,hp⟩:∃p,l[j]? = some p:=⟨_,List.getElem?_eq_getElem (by rw[HN.out];exact hlt)⟩
       have HC:=hid (at_cells (HR.out.keep HW.out) hp)
       have HG:=hid (opsL_get hp)
       obtain⟨x,ov⟩:=p
       clear hp
       obtain⟨q1,q2,q3,q4,q5⟩:=HC.out
       clear q2 q3 q4 q5
       simp only at q1
       have hin1:(0:Int)<=(j:Int):=by omega
       have hin2:(j:Int)<(k:Int):=by omega
       have hw1:IntKind.i64.wrap ((j:Int)+1)=(j:Int)+1:=IntWalk.i64_in _ (by omega)
       have hcu:=HU.out.cell hlt
       have HNX:Hid ((!(x.op == 5 || x.op == 11) || us.getD j false)=true->∀q,q<j+1->(!((opsL l).getD q 0 == 5 || (opsL l).getD q 0 == 11) || us.getD q false)=true):=fun hh q hq=>by
        by_cases e:q=j
        ·subst e
         rw[HG.out]
         exact hh
        ·exact HALL.out q (by omega)
       obtain⟨u,hu⟩:∃u,us.getD j false=u:=⟨_,rfl⟩
       obtain⟨b5,t1⟩:∃b,(x.op == 5)=b:=⟨_,rfl⟩
       obtain⟨b11,t2⟩:∃b,(x.op == 11)=b:=⟨_,rfl⟩
       rw[hu] at hcu HNX
       have HUU:=hid hu
       clear hu
       rw[t1,t2] at HNX
       have HT1:=hid t1
       have HT2:=hid t2
       cases b5 with
       | true=>
        clear t2
        cases u with
        | true=>
         have HNX:=hid (HNX.out (by cases b11 <;> rfl))
         go_wp2_with fail
         go_roundw
         case rel=>exact ⟨j+1,by go_num,hlt,HW.out,HM.out,HU.out,HNX.out⟩
         case measure=>simp[intOf];omega
        | false=>
         go_wp2_with fail
         refine bodyPost_ret (v:=.tuple #[.slice none 0 0,.bool false]) (by simp[results,Tryz.results48,go_sem]) rfl ⟨?_,HW.out⟩
         rw[dM_no (by rw[opsL_len,HN.out]) HMS.out hlt (by rw[HG.out];simp only[HT1.out];rfl) HUU.out]
         exact rfl
       | false=>
        cases b11 with
        | true=>
         cases u with
         | true=>
          have HNX:=hid (HNX.out rfl)
          go_wp2_with fail
          go_roundw
          case rel=>exact ⟨j+1,by go_num,hlt,HW.out,HM.out,HU.out,HNX.out⟩
          case measure=>simp[intOf];omega
         | false=>
          go_wp2_with fail
          refine bodyPost_ret (v:=.tuple #[.slice none 0 0,.bool false]) (by simp[results,Tryz.results48,go_sem]) rfl ⟨?_,HW.out⟩
          rw[dM_no (by rw[opsL_len,HN.out]) HMS.out hlt (by rw[HG.out];simp only[HT1.out,HT2.out];rfl) HUU.out]
          exact rfl
        | false=>
         have HNX:=hid (HNX.out (by cases u <;> rfl))
         clear hcu
         go_wp2_with fail
         go_roundw
         case rel=>exact ⟨j+1,by go_num,hlt,HW.out,HM.out,HU.out,HNX.out⟩
         case measure=>simp[intOf];omega
      ·obtain rfl:j=k:=by omega
       go_wp2_with fail
       refine bodyPost_ret (v:=.tuple #[.slice (some ⟨g1,0,none⟩) j j,.bool true]) (by simp[results,Tryz.results48,go_sem]) rfl ⟨?_,HW.out⟩
       rw[dM_yes (by rw[opsL_len,HN.out]) HMS.out HALL.out]
       refine⟨g1,?_,?_⟩
       ·rw[HM.out.1]
       ·rw[HM.out.1];exact HM.out
def FewB (l:List (Ins×Value))(m:Int):Prop:=(l.length:Int)<=m/\∀p∈l,p.1.L.length<=70
theorem few_any {l:List (Ins×Value)}{A:Option Addr}{n c:Nat}{w:World}(m:Int)(hn:l.length=n)(hr:InRow w (.slice A n c) l):
  Calls Tryz.prog 20 #[.slice A n c,.int .i64 m] w fun e w'=>(∃b,e= .returned (.bool b)/\(b=true↔FewB l m))/\w'=w:=by
 have hbig:n<=9223372036854775807:=by
  obtain⟨⟨A,c',h1,h2,h3,_⟩,_⟩:=id hr
  injection h1 with _ h4 h5
  omega
 have HR:=hid hr
 have HN:=hid hn
 clear hr hn
 by_cases hm:m<(n:Int)
 ·have t1:decide (m<(n:Int))=true:=decide_eq_true hm
  have HNO:Hid (¬ FewB l m):=fun h=>by have:=h.1;rw[HN.out] at this;omega
  clear hm
  go_enter Tryz.func20,Tryz.ntmps20
  go_wp2_with fail
  exact bodyPost_ret (v:=.bool false) (by simp[results,Tryz.results20,go_sem]) rfl ⟨by first | exact ⟨false,rfl,by simpa using HNO.out⟩ | exact .inl ⟨rfl,HNO.out⟩,rfl⟩
 ·have t1:decide (m<(n:Int))=false:=decide_eq_false hm
  have HM:Hid ((n:Int)<=m):=by show _<=_;omega
  clear hm
  go_enter Tryz.func20,Tryz.ntmps20
  go_wp2_with fail
  clear t1
  go_loop [5] (fun i'=>∃i:Nat,i'= .int .i64 (i:Int)/\i<=n/\∀q,q<i->∀p,l[q]? = some p->p.1.L.length<=70) (fun i'=>n - (intOf i').toNat)
  case atStart=>exact ⟨0,by go_num,by omega,fun q hq=>absurd hq (by omega)⟩
  case round=>
   obtain⟨i,rfl,hi,hall⟩:=hrel
   have HALL:=hid hall
   clear hall
   by_cases hlt:i<n
   ·obtain ⟨y,hy⟩:∃y,l[i]? = some y:=⟨_,List.getElem?_eq_getElem (by rw[HN.out];exact hlt)⟩
    obtain⟨g,off,hA,hC,hOk⟩:=HR.out.at_ hy
    subst hA
    obtain⟨PL,cL,hpo,_⟩:=id hOk.1
    have HY:=hid hy
    obtain⟨x,ov⟩:=y
    simp only at hpo
    obtain⟨nL,hnL⟩:∃nL,x.L.length=nL:=⟨_,rfl⟩
    have HNL:=hid hnL
    rw[hnL] at hpo
    subst hpo
    obtain⟨q1,q2,q3,q4,q5⟩:=hC
    clear hOk hy hnL q1 q2 q3 q4
    simp only at q5
    have hin1:(0:Int)<=(i:Int):=by omega
    have hin2:(i:Int)<(n:Int):=by omega
    have hw1:IntKind.i64.wrap ((i:Int)+1)=(i:Int)+1:=IntWalk.i64_in _ (by omega)
    by_cases h70:nL<=70
    ·have t2:decide ((70:Int)<(nL:Int))=false:=decide_eq_false (by omega)
     have HNX:Hid (∀q,q<i+1->∀p,l[q]? = some p->p.1.L.length<=70):=fun q hq p hp=>by
      by_cases e:q=i
      ·subst e
       have e2:=Option.some.inj (HY.out.symm.trans hp)
       subst e2
       show x.L.length<=70
       rw[HNL.out]
       exact h70
      ·exact HALL.out q (by omega) p hp
     clear h70
     go_wp2_with fail
     go_round
     case rel=>exact ⟨i+1,by go_num,hlt,HNX.out⟩
     case measure=>simp[intOf];omega
    ·have t2:decide ((70:Int)<(nL:Int))=true:=decide_eq_true (by omega)
     have HNO:Hid (¬ FewB l m):=fun h=>by
      have:=h.2 _ (List.mem_of_getElem? HY.out)
      simp only at this
      rw[HNL.out] at this
      exact h70 this
     clear h70
     go_wp2_with fail
     exact bodyPost_ret (v:=.bool false) (by simp[results,Tryz.results20,go_sem]) rfl ⟨by first | exact ⟨false,rfl,by simpa using HNO.out⟩ | exact .inl ⟨rfl,HNO.out⟩,rfl⟩
   ·obtain rfl:i=n:=by omega
    have HYES:Hid (FewB l m):=⟨by rw[HN.out];exact HM.out,fun p hp=>by
     obtain⟨q,hq⟩:=List.getElem?_of_mem hp
     exact HALL.out q (by have:=(List.getElem?_eq_some_iff.1 hq).1;rwa [HN.out] at this) p hq⟩
    clear hlt
    go_wp2_with fail
    exact bodyPost_ret (v:=.bool true) (by simp[results,Tryz.results20,go_sem]) rfl ⟨by first | exact ⟨true,rfl,by simpa using HYES.out⟩ | exact .inr ⟨rfl,HYES.out⟩,rfl⟩
end Go.Proofs.YtlappkflnlbfcaaGreatDoor.Bod
end
