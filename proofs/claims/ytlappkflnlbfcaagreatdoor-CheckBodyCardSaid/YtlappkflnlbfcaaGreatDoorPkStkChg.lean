/- StkSane, StkChg. -/
import Derived.Test.YtlappkflnlbfcaaGreatDoorPkStkMade
section
namespace Go.Proofs.YtlappkflnlbfcaaGreatDoor.Stk
open Lib (hid)
open Go.RowKit Row9
set_option maxRecDepth 100000
set_option maxHeartbeats 2000000
set_option linter.unusedVariables false
theorem sgo_cons_no {h:Int}{c:Ctl}{r:List Ctl}(hm:mayE c.fin=false):sgo h (c :: r)=none:=by
 rw[sgo,hm]
 rfl
theorem sgo_cons_low {h:Int}{c:Ctl}{r:List Ctl}(hl:c.ht<h):sgo h (c :: r)=none:=by
 rw[sgo,decide_eq_false (by omega),Bool.and_false]
 rfl
theorem sgo_cons_yes {h:Int}{c:Ctl}{r:List Ctl}(hm:mayE c.fin=true)(hl:¬ c.ht<h):sgo h (c :: r)=sgo c.ht r:=by
 rw[sgo,hm,decide_eq_true (by omega)]
 rfl
theorem drop_cons {l:List CtV}{k:Nat}{p:CtV}(h:l[k]? = some p):(l.map (·.1)).drop k=p.1 :: (l.map (·.1)).drop (k+1):=by
 have hk:=(List.getElem?_eq_some_iff.1 h).1
 have e:(l.map (·.1))[k]? = some p.1:=by rw[List.getElem?_map,h];rfl
 obtain⟨h1,h2⟩:=List.getElem?_eq_some_iff.1 e
 rw[List.drop_eq_getElem_cons h1,h2]
theorem sane_none {s:Stk}(h:sgo 0 s.cs=none):sane s=false:=by unfold sane;rw[h]
theorem sane_some {s:Stk}{h:Int}(e:sgo 0 s.cs=some h):sane s=(decide (h<=s.vals.length) && !(s.vals.any noT)):=by unfold sane;rw[e]
theorem sane_any {a c:Value}{vals:List Int}{l:List CtV}{w:World}(ha:Row elB w a vals)(hc:Row elP w c l):
  Calls Tryz.prog 26 #[.agg #[a,c]] w fun e w'=>e= .returned (.bool (sane ⟨vals,l.map (·.1)⟩))/\Below w.heap.size w w':=by
 have HA:=hid ha
 have HC:=hid hc
 have HW:=hid (zaB w (.cells #[a,c] 39))
 have HS:=hid (zaD w (.cells #[a,c] 39))
 obtain⟨Pa,ca,rfl,ha2,ha3⟩:=ha.form
 obtain⟨Pc,cc_,rfl,hc2,hc3⟩:=hc.form
 obtain⟨nv,hnv⟩:∃n,vals.length=n:=⟨_,rfl⟩
 obtain⟨n,hn⟩:∃n,l.length=n:=⟨_,rfl⟩
 have hbig:n<=9223372036854775807:=by omega
 rw[hnv] at HA HW HS ⊢
 rw[hn] at HC HW HS ⊢
 have HNV:=hid hnv
 have HN:=hid hn
 obtain⟨R,hR⟩:∃R,sane ⟨vals,l.map (·.1)⟩=R:=⟨_,rfl⟩
 rw[hR]
 have HR:=hid hR
 clear ha hc ha2 ha3 hc2 hc3 hnv hn hR
 go_enter Tryz.func26,Tryz.ntmps26
 go_wp2_with fail
 go_loopw [3,9] (fun h' k' wr=>∃ (k:Nat) (h:Int),h'= .int .i64 h/\k'= .int .i64 (k:Int)/\k<=n/\Below (w.alloc (.cells #[.slice Pa nv ca,.slice Pc n cc_] 39)).heap.size (w.alloc (.cells #[.slice Pa nv ca,.slice Pc n cc_] 39)) wr/\sgo 0 (l.map (·.1))=sgo h ((l.map (·.1)).drop k)) (fun _ k' _=>n - (intOf k').toNat)
 case atStart=>exact ⟨0,0,rfl,by go_num,Nat.zero_le _,Below.refl _ _,rfl⟩
 case round=>
  obtain⟨k,h,rfl,rfl,hk,hb,hs⟩:=hrel
  have HB:=hid hb
  have HB0:=hid (HW.out.trans (hb.mono HW.out.size))
  have HSG:=hid hs
  have HA2:=hid (HA.out.keep HB0.out)
  obtain⟨t0,t1⟩:=box2_keep hb
  clear hs hb
  by_cases hlt:k<n
  ·obtain ⟨p,hp⟩:∃p,l[k]? = some p:=⟨_,List.getElem?_eq_getElem (by rw[HN.out];exact hlt)⟩
   obtain⟨g,off,rfl,hg,k0,k1,k2,k3,hO⟩:=ctl_at (HC.out.keep HB0.out) hp
   have hD:=drop_cons hp
   rw[hD] at HSG
   obtain⟨Pe,ce,hpe,he2,he3⟩:=hO.1.form
   obtain⟨ne,hne⟩:∃ne,p.1.fin.length=ne:=⟨_,rfl⟩
   rw[hne] at hpe
   have HM:=hid (fun W (hW:Below wr.heap.size wr W)=>mayend_any (hO.1.keep hW))
   rw[hpe] at k1 HM
   have i1:(0:Int)<=(k:Int):=by omega
   have i2:(k:Int)<(n:Int):=by omega
   have hw1:IntKind.i64.wrap ((k:Int)+1)=(k:Int)+1:=IntWalk.i64_in _ (by omega)
   obtain⟨op,hop⟩:∃op,p.1.op=op:=⟨_,rfl⟩
   obtain⟨ht,hht⟩:∃ht,p.1.ht=ht:=⟨_,rfl⟩
   obtain⟨dd,hdd⟩:∃dd,p.1.dead=dd:=⟨_,rfl⟩
   rw[hop] at k0
   rw[hht] at k2
   rw[hdd] at k3
   obtain⟨qq,hqq⟩:∃qq,off+k*4=qq:=⟨_,rfl⟩
   rw[hqq] at k0 k1 k2 k3
   have HBn:=hid (zaB wr (.cells #[.int .i64 op,.slice Pe ne ce,.int .i64 ht,.bool dd] 72))
   have HHT:=hid hht
   clear hp hD hO hpe he2 he3 hne hop hht hdd hg
   cases hm:mayE p.1.fin with
   | false=>
    have HQ:Hid (false=R):=by show _=_;rw[<- HR.out];exact(sane_none (HSG.out.trans (sgo_cons_no hm))).symm
    rw[hm] at HM
    clear hm
    go_wp2_with fail
    refine(HM.out _ HBn.out).mono ?_
    rintro e w1 ⟨rfl,rfl⟩
    go_wp2_with fail
    exact bodyPost_ret (v:=.bool false) (by simp[results,Tryz.results26,go_sem]) rfl ⟨by rw[HQ.out],HB0.out.trans (HBn.out.mono HB0.out.size)⟩
   | true=>
    rw[hm] at HM
    by_cases hlo:ht<h
    ·have HQ:Hid (false=R):=by show _=_;rw[<- HR.out];exact(sane_none (HSG.out.trans (sgo_cons_low (by rw[HHT.out];exact hlo)))).symm
     have t5:decide (ht<h)=true:=decide_eq_true hlo
     clear hm hlo
     go_wp2_with fail
     refine(HM.out _ HBn.out).mono ?_
     rintro e w1 ⟨rfl,rfl⟩
     go_wp2_with fail
     exact bodyPost_ret (v:=.bool false) (by simp[results,Tryz.results26,go_sem]) rfl ⟨by rw[HQ.out],HB0.out.trans (HBn.out.mono HB0.out.size)⟩
    ·have HQ:Hid (sgo 0 (l.map (·.1))=sgo ht ((l.map (·.1)).drop (k+1))):=by show _=_;rw[HSG.out,sgo_cons_yes hm (by rw[HHT.out];exact hlo),HHT.out]
     have t5:decide (ht<h)=false:=decide_eq_false hlo
     clear hm hlo
     go_wp2_with fail
     refine(HM.out _ HBn.out).mono ?_
     rintro e w1 ⟨rfl,rfl⟩
     go_wp2_with fail
     go_roundw
     case rel=>exact ⟨k+1,ht,rfl,by go_num,hlt,HB.out.trans (HBn.out.mono HB.out.size),HQ.out⟩
     case measure=>simp[intOf];omega
  ·obtain rfl:k=n:=by omega
   have hse:sgo 0 (l.map (·.1))=some h:=by
    rw[HSG.out,List.drop_of_length_le (by rw[List.length_map,HN.out];exact Nat.le_refl _)]
    rfl
   have hsx:sane ⟨vals,l.map (·.1)⟩=(decide (h<=(vals.length:Int)) && !(vals.any noT)):=sane_some hse
   rw[HR.out,HNV.out] at hsx
   have HCo:=hid (con_any HA2.out)
   have HSX:=hid hsx
   clear hse hsx HA
   by_cases hle:h<=(nv:Int)
   ·have t5:decide (h<=(nv:Int))=true:=decide_eq_true hle
    have HQ:Hid (R = !(vals.any noT)):=by show _=_;rw[HSX.out,t5,Bool.true_and]
    clear hle
    generalize vals.any noT=q at HCo HQ
    go_wp2_with fail
    refine HCo.out.mono ?_
    rintro e w1 ⟨rfl,rfl⟩
    go_wp2_with fail
    exact bodyPost_ret (v:=.bool (!q)) (by simp[results,Tryz.results26,go_sem]) rfl ⟨by rw[HQ.out],HB0.out⟩
   ·have t5:decide (h<=(nv:Int))=false:=decide_eq_false hle
    have HQ:Hid (R=false):=by show _=_;rw[HSX.out,t5,Bool.false_and]
    clear hle
    go_wp2_with fail
    exact bodyPost_ret (v:=.bool false) (by simp[results,Tryz.results26,go_sem]) rfl ⟨by rw[HQ.out],HB0.out⟩
theorem sgo_le:∀ (cs:List Ctl)(h h':Int),sgo h cs=some h'->h<=h'/\(∀c∈cs,h<=c.ht/\c.ht<=h'/\mayE c.fin=true)/\(∀c,cs.getLast? = some c->c.ht=h')
 | [],h,h',e=>by
  obtain rfl:h=h':=Option.some.inj e
  exact⟨Int.le_refl _,(fun c hc=>by cases hc),(fun c hc=>by cases hc)⟩
 | c :: r,h,h',e=>by
  rw[sgo] at e
  split at e
  ·rename_i hc
   simp only[Bool.and_eq_true,decide_eq_true_eq] at hc
   obtain⟨h1,h2,h3⟩:=sgo_le r c.ht h' e
   refine⟨by omega,fun x hx=>?_,fun x hx=>?_⟩
   ·rcases List.mem_cons.1 hx with rfl | hx
    ·exact ⟨hc.2,h1,hc.1⟩
    ·have:=h2 x hx
     exact⟨by omega,this.2⟩
   ·cases r with
    | nil=>
     obtain rfl:c=x:=by simpa using hx
     exact Option.some.inj e
    | cons y r=>
     rw[List.getLast?_cons_cons] at hx
     exact h3 x hx
  ·cases e
theorem sane_facts {s:Stk}(h:sane s=true):(∀c∈s.cs,0<=c.ht/\c.ht<=s.vals.length/\mayE c.fin=true)/\s.vals.any noT=false:=by
 unfold sane at h
 split at h
 ·cases h
 ·rename_i h' e
  simp only[Bool.and_eq_true,decide_eq_true_eq,Bool.not_eq_true'] at h
  obtain⟨h1,h2,h3⟩:=sgo_le _ _ _ e
  exact⟨fun c hc=>by have:=h2 c hc;exact⟨by omega,by omega,this.2.2⟩,h.2⟩
theorem mayE_len {l:List Int}(h:mayE l=true):l.length<=1:=by
 match l,h with
 | [],_=>simp
 | [x],_=>simp
 | x :: y :: r,h=>cases h
theorem run_k {k:FuncId}(h:Stab.FnOk Tryz.prog k)(args:Array Value)(w:World):(callFunc k args).run Tryz.prog w= .ok (.enter k args) w:=by
 obtain⟨fn,hf,h1,h2⟩:=h
 exact Stab.run_enter hf h1 h2 args w
def NoInt (w:World)(r:Nat):Prop:=∀i k x,w.cell? ⟨r,i,none⟩≠some (.int k x)
theorem row_besideB {w w':World}{r:Nat}{v:Value}{l:List Int}(h:Row elB w v l)(hr:NoInt w r)(hc:Chg w w' (some r))(hs:w.heap.size<=w'.heap.size):Row elB w' v l:=by
 obtain⟨⟨A,c,h1,h2,h3,h4⟩,h5⟩:=h
 refine⟨⟨A,c,h1,h2,h3,fun h0=>?_⟩,h5⟩
 obtain⟨g,off,e,hg,hC⟩:=h4 h0
 refine⟨g,off,e,by omega,fun j p hp i u hu=>?_⟩
 have h6:=hC j p hp i u hu
 have hne:g≠r:=by
  intro e1
  subst e1
  have:u= .int .u8 p:=by
   have hi:=(List.getElem?_eq_some_iff.1 hu).1
   have:i=0:=by simp[elB] at hi;omega
   subst this
   simpa [elB] using hu.symm
  rw[this] at h6
  exact hr _ _ _ h6
 rw[World.cell?_of_block (a:=⟨g,off+j*elB.s+i,none⟩) (hc g hg (by intro e1;exact hne (Option.some.inj e1)))]
 exact h6
theorem row_besideC {e:TypeId}{hi}{w w':World}{r:Nat}{v:Value}{l:List CtV}(h:Row (elCt e hi) w v l)(hr:NoInt w r)(hc:Chg w w' (some r))(hs:w.heap.size<=w'.heap.size):Row (elCt e hi) w' v l:=by
 obtain⟨⟨A,c,h1,h2,h3,h4⟩,h5⟩:=h
 refine⟨⟨A,c,h1,h2,h3,fun h0=>?_⟩,fun p hp=>⟨row_besideB (h5 p hp).1 hr hc hs,(h5 p hp).2⟩⟩
 obtain⟨g,off,e1,hg,hC⟩:=h4 h0
 refine⟨g,off,e1,by omega,fun j p hp i u hu=>?_⟩
 have h6:=hC j p hp i u hu
 have hne:g≠r:=by
  intro e2
  subst e2
  exact hr _ _ _ (hC j p hp 0 _ rfl)
 rw[World.cell?_of_block (a:=⟨g,off+j*(elCt e hi).s+i,none⟩) (hc g hg (by intro e2;exact hne (Option.some.inj e2)))]
 exact h6
def zS:Value:=.agg #[.slice none 0 0,.slice none 0 0]
structure BO (B:Nat) (b:Option Nat) (w w':World):Prop where
 os:w'.os=w.os
 tape:w'.tape=w.tape
 output:w'.output=w.output
 size:w.heap.size<=w'.heap.size
 block:∀k,k<B->some k≠b->w'.heap[k]? = w.heap[k]?
theorem BO.of_below {B:Nat}{b:Option Nat}{w w':World}(h:Below B w w'):BO B b w w':=⟨h.os,h.tape,h.output,h.size,fun k hk _=>h.block k hk⟩
theorem BO.trans {B:Nat}{b:Option Nat}{a c d:World}(h:BO B b a c)(k:BO B b c d):BO B b a d:=
 ⟨k.os.trans h.os,k.tape.trans h.tape,k.output.trans h.output,Nat.le_trans h.size k.size,fun i hi hn=>(k.block i hi hn).trans (h.block i hi hn)⟩
theorem BO.below {B:Nat}{w w':World}(h:BO B none w w'):Below B w w':=⟨h.os,h.tape,h.output,h.size,fun k hk=>h.block k hk (by simp)⟩
def ChTold (b:Option Nat)(s:Stk)(e0:Int)(s':Stk)(K:World->Prop)(w:World)(e:Ending)(w':World):Prop:=
 (sane s=false/\e= .returned (.tuple #[zS,.int .i64 1])/\Below w.heap.size w w')\/(sane s=true/\e0≠0/\e= .returned (.tuple #[zS,.int .i64 e0])/\K w'/\BO w.heap.size b w w')\/(sane s=true/\e0=0/\∃v,e= .returned (.tuple #[v,.int .i64 0])/\StIs elP w' v s'/\K w'/\BO w.heap.size b w w')
theorem chg2 (w:World)(r:Nat)(a b:Value):Chg w ((w.setCell ⟨r,0,none⟩ a).setCell ⟨r,1,none⟩ b) (some r):=fun k hk hne=>by
 have h:k≠r:=fun e=>hne (congrArg some e)
 rw[Below.heap_setCell _ _ _ _ h,Below.heap_setCell _ _ _ _ h]
theorem noint2 {w:World}{r:Nat}{t:TypeId}(h:w.heap[r]? = some (.cells #[.slice none 0 0,.slice none 0 0] t (0,0))):NoInt w r:=fun i k x e=>by
 rw[(zaA h i).1] at e
 match i,e with
 | 0,e=>cases e
 | 1,e=>cases e
 | i+2,e=>cases e
theorem changed_any {a c:Value}{vals:List Int}{l:List CtV}{k:FuncId}{caps:Array Value}{w:World}{b:Option Nat}{e0:Int}{s':Stk}{K:World->Prop}(ha:Row elB w a vals)(hc:Row elP w c l)(hvl:vals.length<=1000000)(hll:l.length<=1000000)
  (hk:Stab.FnOk Tryz.prog k) (hKk:∀W W' r,K W->w.heap.size<=r->NoInt W r->Chg W W' (some r)->W.heap.size<=W'.heap.size->K W')
  (hF:sane ⟨vals,l.map (·.1)⟩=true->∀W B D vv cv l',w.heap.size<=B->Below w.heap.size w W->Dr W B D vv cv vals l'->l'.map (·.1)=l.map (·.1)->Calls Tryz.prog k (#[.pointer (some ⟨D,0,none⟩)] ++ caps) W fun e W'=>e= .returned (.int .i64 e0)/\K W'/\(e0=0->Left W' D s')/\BO B b W W')
  (hbr:∀x,w.heap.size<=x->some x≠b) :
  Calls Tryz.prog 83 #[.agg #[a,c],.func (.func k) #[] caps] w (ChTold b ⟨vals,l.map (·.1)⟩ e0 s' K w):=by
 have hrun:=run_k hk
 have HA:=hid ha
 have HC:=hid hc
 obtain⟨Pa,ca,rfl,_⟩:=ha.form
 obtain⟨Pc,cc_,rfl,_⟩:=hc.form
 obtain⟨nv,hnv⟩:∃n,vals.length=n:=⟨_,rfl⟩
 obtain⟨n,hn⟩:∃n,l.length=n:=⟨_,rfl⟩
 rw[hnv] at HA ⊢
 rw[hn] at HC ⊢
 have HVL:=hid hvl
 have HLL:=hid hll
 have HF:=hid hF
 have HKK:=hid hKk
 have HBR:=hid hbr
 have HW1:=hid (zaB w (.cells #[.slice Pa nv ca,.slice Pc n cc_] 39))
 have HS1:=hid (zaD w (.cells #[.slice Pa nv ca,.slice Pc n cc_] 39))
 have HX1:=hid (zaC w (.cells #[.slice Pa nv ca,.slice Pc n cc_] 39))
 clear ha hc hvl hll hF hKk hbr hnv hn
 go_enter Tryz.func83,Tryz.ntmps83
 go_wp2_with fail
 have HW2:=hid (HW1.out.trans ((zaB (w.alloc (.cells #[.slice Pa nv ca,.slice Pc n cc_] 39)) (.cells #[.slice none 0 0,.slice none 0 0] 39)).mono HW1.out.size))
 have HW12:=hid (zaB (w.alloc (.cells #[.slice Pa nv ca,.slice Pc n cc_] 39)) (.cells #[.slice none 0 0,.slice none 0 0] 39))
 have HZ2:=hid (zaC (w.alloc (.cells #[.slice Pa nv ca,.slice Pc n cc_] 39)) (.cells #[.slice none 0 0,.slice none 0 0] 39))
 have HT2:=hid (box2_keep HW12.out)
 rw[HS1.out] at HZ2
 generalize (w.alloc (.cells #[.slice Pa nv ca,.slice Pc n cc_] 39)).alloc (.cells #[.slice none 0 0,.slice none 0 0] 39)=w2 at *
 clear HW1 HS1 HX1 HW12
 obtain⟨z,hz⟩:∃z,w.heap.size=z:=⟨_,rfl⟩
 rw[hz] at HT2 HZ2
 obtain⟨r,hr⟩:∃r,z+1=r:=⟨_,rfl⟩
 have HR:Hid (w.heap.size<=r/\some r≠b/\w.heap.size<=z/\z<r):=⟨by omega,HBR.out r (by omega),by omega,by omega⟩
 rw[hz,hr]
 rw[hr] at HZ2
 clear hz hr
 refine(sane_any (HA.out.keep HW2.out) (HC.out.keep HW2.out)).mono ?_
 rintro e w3 ⟨rfl,hb3⟩
 have HB3:=hid (HW2.out.trans (hb3.mono HW2.out.size))
 have hz3:=(hb3.block r (lt_of_heap HZ2.out)).trans HZ2.out
 have HZ3:=hid hz3
 have HRL:=hid (lt_of_heap hz3)
 cases hs:sane ⟨vals,l.map (·.1)⟩ with
 | false=>
  have HS:=hid hs
  obtain⟨q0,p0⟩:=zaA hz3 0
  obtain⟨q1,p1⟩:=zaA hz3 1
  simp only[List.getElem?_toArray,List.getElem?_cons_zero,List.getElem?_cons_succ] at q0 q1
  clear hs hb3 hz3 hrun
  go_wp2_with fail
  refine bodyPost_ret (v:=.tuple #[zS,.int .i64 1]) (by simp[results,Tryz.results83,go_sem,zS,q0,q1]) rfl (.inl ⟨HS.out,rfl,?_⟩)
  exact(HB3.out.setCell (p:=⟨r,0,none⟩) HR.out.1 _).setCell (p:=⟨r,1,none⟩) HR.out.1 _
 | true=>
  have HS:=hid hs
  have hfs:=(sane_facts hs).1
  have hzl:=World.block_lt_of_cell? w2 _ HT2.out.1
  have t0:=(hb3.cell (p:=⟨z,0,none⟩) hzl).trans HT2.out.1
  have t1:=(hb3.cell (p:=⟨z,1,none⟩) hzl).trans HT2.out.2
  have HDr:=hid (drafted_any (HA.out.keep HB3.out) (HC.out.keep HB3.out) (fun p hp=>(hfs p.1 (List.mem_map_of_mem hp)).1) HVL.out HLL.out (fun p hp=>by have:=mayE_len (hfs p.1 (List.mem_map_of_mem hp)).2.2;omega))
  clear hs hb3 hz3 hfs hzl
  go_wp2_with fail
  refine HDr.out.mono ?_
  rintro e w4 ⟨D,vv,cv,l',rfl,hd,hl',hb4⟩
  have HB4:=hid (HB3.out.trans (hb4.mono HB3.out.size))
  have HZ4:=hid ((hb4.block r HRL.out).trans HZ3.out)
  have HFF:=hid (HF.out HS.out w4 w3.heap.size D vv cv l' HB3.out.size HB4.out hd hl')
  have HSZ:=hid hb4.size
  clear t0 t1 hd hl' hb4
  go_wp2_with fail
  refine HFF.out.mono ?_
  rintro e w5 ⟨rfl,hK,hL,hbb⟩
  have HK:=hid hK
  have HL:=hid hL
  have HB5:Hid (BO w.heap.size b w w5):=(BO.of_below HB4.out).trans ⟨hbb.os,hbb.tape,hbb.output,hbb.size,fun k hk hne=>hbb.block k (Nat.lt_of_lt_of_le hk HB3.out.size) hne⟩
  have hz5:=(hbb.block r HRL.out HR.out.2.1).trans HZ4.out
  have HZ5:=hid hz5
  obtain⟨q0,p0⟩:=zaA hz5 0
  obtain⟨q1,p1⟩:=zaA hz5 1
  simp only[List.getElem?_toArray,List.getElem?_cons_zero,List.getElem?_cons_succ] at q0 q1
  clear hK hL hbb hz5 hrun
  by_cases he:e0=0
  ·subst he
   obtain⟨a',c',pv,l'',hd5,ra,rc,hm⟩:=HL.out rfl
   obtain⟨d0,d1,d2,f0,f1,f2⟩:=dr_cells hd5
   have HRA:=hid (row_besideB ra (noint2 HZ5.out) (chg2 w5 r a' c') (by rw[zaJ,zaJ];exact Nat.le_refl _))
   have HRC:=hid (row_besideC rc (noint2 HZ5.out) (chg2 w5 r a' c') (by rw[zaJ,zaJ];exact Nat.le_refl _))
   have HM:=hid hm
   obtain⟨Pa',ca',rfl,_⟩:=ra.form
   obtain⟨Pc',cc',rfl,_⟩:=rc.form
   obtain⟨na',hna⟩:∃n,s'.vals.length=n:=⟨_,rfl⟩
   obtain⟨nc',hnc⟩:∃n,l''.length=n:=⟨_,rfl⟩
   rw[hna] at d0 HRA HRC
   rw[hnc] at d1 HRA HRC
   clear hd5 ra rc hm hna hnc d2 f0 f1 f2
   go_wp2_with fail
   refine bodyPost_ret (v:=.tuple #[.agg #[.slice Pa' na' ca',.slice Pc' nc' cc'],.int .i64 0]) (by simp[results,Tryz.results83,go_sem,q0,q1]) rfl (.inr (.inr ⟨HS.out,rfl,_,rfl,⟨_,_,_,rfl,HRA.out,HRC.out,HM.out⟩,?_,?_⟩))
   ·exact HKK.out _ _ r HK.out HR.out.1 (noint2 HZ5.out) (chg2 w5 r _ _) (by rw[zaJ,zaJ];exact Nat.le_refl _)
   ·exact HB5.out.trans (BO.of_below (((Below.refl _ _).setCell (p:=⟨r,0,none⟩) HR.out.1 _).setCell (p:=⟨r,1,none⟩) HR.out.1 _))
  ·have t5:(e0 != 0)=true:=by simpa using he
   have HE:=hid he
   clear he
   go_wp2_with fail
   refine bodyPost_ret (v:=.tuple #[zS,.int .i64 e0]) (by simp[results,Tryz.results83,go_sem,zS,q0,q1]) rfl (.inr (.inl ⟨HS.out,HE.out,rfl,?_,?_⟩))
   ·exact HKK.out _ _ r HK.out HR.out.1 (noint2 HZ5.out) (chg2 w5 r _ _) (by rw[zaJ,zaJ];exact Nat.le_refl _)
   ·exact HB5.out.trans (BO.of_below (((Below.refl _ _).setCell (p:=⟨r,0,none⟩) HR.out.1 _).setCell (p:=⟨r,1,none⟩) HR.out.1 _))
end Go.Proofs.YtlappkflnlbfcaaGreatDoor.Stk
end
