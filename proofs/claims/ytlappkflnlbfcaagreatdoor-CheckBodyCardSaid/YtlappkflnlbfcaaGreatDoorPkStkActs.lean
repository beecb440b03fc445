/- StkCloseC, StkCloseD, StkLabel, StkActs. -/
import Derived.Test.YtlappkflnlbfcaaGreatDoorPkStkPopC
section
namespace Go.Proofs.YtlappkflnlbfcaaGreatDoor.Stk
open Lib (hid)
open Go.RowKit Row9
set_option maxRecDepth 100000
set_option maxHeartbeats 2000000
set_option linter.unusedVariables false
def ChHigh (b:Option Nat)(s:Stk)(e0:Int)(s':Stk)(K:World->Prop)(w:World)(e:Ending)(w':World):Prop:=
 (sane s=false/\e= .returned (.tuple #[zS,.int .i64 1])/\Below w.heap.size w w')\/(sane s=true/\e0≠0/\e= .returned (.tuple #[zS,.int .i64 e0])/\K w'/\BO w.heap.size b w w')\/(sane s=true/\e0=0/\∃v,e= .returned (.tuple #[v,.int .i64 0])/\(∀W:World,(∀k,w.heap.size<=k->k<w'.heap.size->W.heap[k]? = w'.heap[k]?)->StIs elP W v s')/\K w'/\BO w.heap.size b w w')
theorem changed_high {a c:Value}{vals:List Int}{l:List CtV}{k:FuncId}{caps:Array Value}{w:World}{b:Option Nat}{e0:Int}{s':Stk}{K:World->Prop}(ha:Row elB w a vals)(hc:Row elP w c l)(hvl:vals.length<=1000000)(hll:l.length<=1000000)
  (hk:Stab.FnOk Tryz.prog k) (hKk:∀W W' r,K W->w.heap.size<=r->NoInt W r->Chg W W' (some r)->W.heap.size<=W'.heap.size->K W')
  (hF:sane ⟨vals,l.map (·.1)⟩=true->∀W B D vv cv l',w.heap.size<=B->Below w.heap.size w W->Dr W B D vv cv vals l'->l'.map (·.1)=l.map (·.1)->Calls Tryz.prog k (#[.pointer (some ⟨D,0,none⟩)] ++ caps) W fun e W'=>e= .returned (.int .i64 e0)/\K W'/\(e0=0->∀W2,(∀k,B<=k->k<W'.heap.size->W2.heap[k]? = W'.heap[k]?)->Left W2 D s')/\BO B b W W')
  (hbr:∀x,w.heap.size<=x->some x≠b) :
  Calls Tryz.prog 83 #[.agg #[a,c],.func (.func k) #[] caps] w (ChHigh b ⟨vals,l.map (·.1)⟩ e0 s' K w):=by
 have hrun:=run_k hk
 have HA:=hid ha
 have HC:=hid hc
 obtain⟨Pa,ca,rfl,_⟩:=ha.form
 obtain⟨Pc,cc_,rfl,_⟩:=hc.form
 obtain⟨nv,hnv⟩:∃n,vals.length=n:=⟨_,rfl⟩
 obtain⟨n,hn⟩:∃n,l.length=n:=⟨_,rfl⟩
 rw[hnv] at HA ⊢
 rw[hn] at HC ⊢
 have HVL:=hid hvl
 have HLL:=hid hll
 have HF:=hid hF
 have HKK:=hid hKk
 have HBR:=hid hbr
 have HW1:=hid (zaB w (.cells #[.slice Pa nv ca,.slice Pc n cc_] 39))
 have HS1:=hid (zaD w (.cells #[.slice Pa nv ca,.slice Pc n cc_] 39))
 have HX1:=hid (zaC w (.cells #[.slice Pa nv ca,.slice Pc n cc_] 39))
 clear ha hc hvl hll hF hKk hbr hnv hn
 go_enter Tryz.func83,Tryz.ntmps83
 go_wp2_with fail
 have HW2:=hid (HW1.out.trans ((zaB (w.alloc (.cells #[.slice Pa nv ca,.slice Pc n cc_] 39)) (.cells #[.slice none 0 0,.slice none 0 0] 39)).mono HW1.out.size))
 have HW12:=hid (zaB (w.alloc (.cells #[.slice Pa nv ca,.slice Pc n cc_] 39)) (.cells #[.slice none 0 0,.slice none 0 0] 39))
 have HZ2:=hid (zaC (w.alloc (.cells #[.slice Pa nv ca,.slice Pc n cc_] 39)) (.cells #[.slice none 0 0,.slice none 0 0] 39))
 have HT2:=hid (box2_keep HW12.out)
 rw[HS1.out] at HZ2
 generalize (w.alloc (.cells #[.slice Pa nv ca,.slice Pc n cc_] 39)).alloc (.cells #[.slice none 0 0,.slice none 0 0] 39)=w2 at *
 clear HW1 HS1 HX1 HW12
 obtain⟨z,hz⟩:∃z,w.heap.size=z:=⟨_,rfl⟩
 rw[hz] at HT2 HZ2
 obtain⟨r,hr⟩:∃r,z+1=r:=⟨_,rfl⟩
 have HR:Hid (w.heap.size<=r/\some r≠b/\w.heap.size<=z/\z<r):=⟨by omega,HBR.out r (by omega),by omega,by omega⟩
 rw[hz,hr]
 rw[hr] at HZ2
 clear hz hr
 refine(sane_any (HA.out.keep HW2.out) (HC.out.keep HW2.out)).mono ?_
 rintro e w3 ⟨rfl,hb3⟩
 have HB3:=hid (HW2.out.trans (hb3.mono HW2.out.size))
 have hz3:=(hb3.block r (lt_of_heap HZ2.out)).trans HZ2.out
 have HZ3:=hid hz3
 have HRL:=hid (lt_of_heap hz3)
 cases hs:sane ⟨vals,l.map (·.1)⟩ with
 | false=>
  have HS:=hid hs
  obtain⟨q0,p0⟩:=zaA hz3 0
  obtain⟨q1,p1⟩:=zaA hz3 1
  simp only[List.getElem?_toArray,List.getElem?_cons_zero,List.getElem?_cons_succ] at q0 q1
  clear hs hb3 hz3 hrun
  go_wp2_with fail
  refine bodyPost_ret (v:=.tuple #[zS,.int .i64 1]) (by simp[results,Tryz.results83,go_sem,zS,q0,q1]) rfl (.inl ⟨HS.out,rfl,?_⟩)
  exact(HB3.out.setCell (p:=⟨r,0,none⟩) HR.out.1 _).setCell (p:=⟨r,1,none⟩) HR.out.1 _
 | true=>
  have HS:=hid hs
  have hfs:=(sane_facts hs).1
  have hzl:=World.block_lt_of_cell? w2 _ HT2.out.1
  have t0:=(hb3.cell (p:=⟨z,0,none⟩) hzl).trans HT2.out.1
  have t1:=(hb3.cell (p:=⟨z,1,none⟩) hzl).trans HT2.out.2
  have HDr:=hid (drafted_any (HA.out.keep HB3.out) (HC.out.keep HB3.out) (fun p hp=>(hfs p.1 (List.mem_map_of_mem hp)).1) HVL.out HLL.out (fun p hp=>by have:=mayE_len (hfs p.1 (List.mem_map_of_mem hp)).2.2;omega))
  clear hs hb3 hz3 hfs hzl
  go_wp2_with fail
  refine HDr.out.mono ?_
  rintro e w4 ⟨D,vv,cv,l',rfl,hd,hl',hb4⟩
  have HB4:=hid (HB3.out.trans (hb4.mono HB3.out.size))
  have HZ4:=hid ((hb4.block r HRL.out).trans HZ3.out)
  have HFF:=hid (HF.out HS.out w4 w3.heap.size D vv cv l' HB3.out.size HB4.out hd hl')
  have HSZ:=hid hb4.size
  have HDB:=hid hd.hD
  clear t0 t1 hd hl' hb4
  go_wp2_with fail
  refine HFF.out.mono ?_
  rintro e w5 ⟨rfl,hK,hL,hbb⟩
  have HK:=hid hK
  have HL:=hid hL
  have HB5:Hid (BO w.heap.size b w w5):=(BO.of_below HB4.out).trans ⟨hbb.os,hbb.tape,hbb.output,hbb.size,fun k hk hne=>hbb.block k (Nat.lt_of_lt_of_le hk HB3.out.size) hne⟩
  have hz5:=(hbb.block r HRL.out HR.out.2.1).trans HZ4.out
  have HZ5:=hid hz5
  obtain⟨q0,p0⟩:=zaA hz5 0
  obtain⟨q1,p1⟩:=zaA hz5 1
  simp only[List.getElem?_toArray,List.getElem?_cons_zero,List.getElem?_cons_succ] at q0 q1
  clear hK hL hbb hz5 hrun
  by_cases he:e0=0
  ·subst he
   obtain⟨a',c',pv,l'',hd5,ra,rc,hm⟩:=HL.out rfl w5 (fun _ _ _=>rfl)
   have HD5:=hid hd5
   obtain⟨d0,d1,d2,f0,f1,f2⟩:=dr_cells hd5
   have HV:Hid (∀W:World,(∀k,w.heap.size<=k->k<((w5.setCell ⟨r,0,none⟩ a').setCell ⟨r,1,none⟩ c').heap.size->W.heap[k]? = ((w5.setCell ⟨r,0,none⟩ a').setCell ⟨r,1,none⟩ c').heap[k]?)->StIs elP W (.agg #[a',c']) s'):=fun W hW=>by
    have hs:∀k,w3.heap.size<=k->k<w5.heap.size->W.heap[k]? = w5.heap[k]?:=fun k h1 h2=>by
     rw[hW k (Nat.le_trans HB3.out.size h1) (by rw[zaJ,zaJ];exact h2)]
     exact chg2 w5 r a' c' k h2 (by intro e;have:=Option.some.inj e;have:=HRL.out;omega)
    obtain⟨a2,c2,pv2,l2,hd2,ra2,rc2,hm2⟩:=HL.out rfl W hs
    have hDD:D<w5.heap.size:=lt_of_heap HD5.out
    rw[hs D HDB.out hDD,HD5.out] at hd2
    simp only[drCells,Option.some.injEq,Obj.cells.injEq,Array.mk.injEq,List.cons.injEq,and_true] at hd2
    obtain⟨rfl,rfl,_⟩:=hd2
    exact⟨_,_,l2,rfl,ra2,rc2,hm2⟩
   obtain⟨Pa',ca',rfl,_⟩:=ra.form
   obtain⟨Pc',cc',rfl,_⟩:=rc.form
   obtain⟨na',hna⟩:∃n,s'.vals.length=n:=⟨_,rfl⟩
   obtain⟨nc',hnc⟩:∃n,l''.length=n:=⟨_,rfl⟩
   rw[hna] at d0 HV
   rw[hnc] at d1 HV
   clear hd5 ra rc hm hna hnc d2 f0 f1 f2
   go_wp2_with fail
   refine bodyPost_ret (v:=.tuple #[.agg #[.slice Pa' na' ca',.slice Pc' nc' cc'],.int .i64 0]) (by simp[results,Tryz.results83,go_sem,q0,q1]) rfl (.inr (.inr ⟨HS.out,rfl,_,rfl,HV.out,?_,?_⟩))
   ·exact HKK.out _ _ r HK.out HR.out.1 (noint2 HZ5.out) (chg2 w5 r _ _) (by rw[zaJ,zaJ];exact Nat.le_refl _)
   ·exact HB5.out.trans (BO.of_below (((Below.refl _ _).setCell (p:=⟨r,0,none⟩) HR.out.1 _).setCell (p:=⟨r,1,none⟩) HR.out.1 _))
  ·have t5:(e0 != 0)=true:=by simpa using he
   have HE:=hid he
   clear he
   go_wp2_with fail
   refine bodyPost_ret (v:=.tuple #[zS,.int .i64 e0]) (by simp[results,Tryz.results83,go_sem,zS,q0,q1]) rfl (.inr (.inl ⟨HS.out,HE.out,rfl,?_,?_⟩))
   ·exact HKK.out _ _ r HK.out HR.out.1 (noint2 HZ5.out) (chg2 w5 r _ _) (by rw[zaJ,zaJ];exact Nat.le_refl _)
   ·exact HB5.out.trans (BO.of_below (((Below.refl _ _).setCell (p:=⟨r,0,none⟩) HR.out.1 _).setCell (p:=⟨r,1,none⟩) HR.out.1 _))
def NoU8 (w:World)(r:Nat):Prop:=∀i x,w.cell? ⟨r,i,none⟩≠some (.int .u8 x)
theorem row_besideU {w w':World}{r:Nat}{v:Value}{l:List Int}(h:Row elB w v l)(hr:NoU8 w r)(hc:Chg w w' (some r))(hs:w.heap.size<=w'.heap.size):Row elB w' v l:=by
 obtain⟨⟨A,c,h1,h2,h3,h4⟩,h5⟩:=h
 refine⟨⟨A,c,h1,h2,h3,fun h0=>?_⟩,h5⟩
 obtain⟨g,off,e,hg,hC⟩:=h4 h0
 refine⟨g,off,e,by omega,fun j p hp i u hu=>?_⟩
 have h6:=hC j p hp i u hu
 have hne:g≠r:=by
  intro e1
  subst e1
  have:u= .int .u8 p:=by
   have hi:=(List.getElem?_eq_some_iff.1 hu).1
   have:i=0:=by simp[elB] at hi;omega
   subst this
   simpa [elB] using hu.symm
  rw[this] at h6
  exact hr _ _ h6
 rw[World.cell?_of_block (a:=⟨g,off+j*elB.s+i,none⟩) (hc g hg (by intro e1;exact hne (Option.some.inj e1)))]
 exact h6
def zCells:Obj:=.cells #[.int .i64 0,.slice none 0 0,.int .i64 0,.bool false] 72 (0,0)
theorem nou8_4 {w:World}{r:Nat}(h:w.heap[r]? = some zCells):NoU8 w r:=fun i x e=>by
 unfold zCells at h
 rw[(zaA h i).1] at e
 match i,e with
 | 0,e=>cases e
 | 1,e=>cases e
 | 2,e=>cases e
 | 3,e=>cases e
 | i+4,e=>cases e
def CtlAt (w:World)(b:Nat)(c:Ctl):Prop:=∃v,w.heap[b]? = some (.cells #[.int .i64 c.op,v,.int .i64 c.ht,.bool c.dead] 72 (0,0))/\Row elB w v c.fin
theorem CtlAt.zero {w:World}{b:Nat}(h:w.heap[b]? = some zCells):CtlAt w b zeroC:=⟨_,h,Row.nil _ _⟩
theorem set4_heap {w:World}{b:Nat}{cur:Array Value}{e:TypeId}(h:w.heap[b]? = some (.cells cur e (0,0)))(x0 x1 x2 x3:Value)(hc:cur.size=4):((((w.setCell ⟨b,0,none⟩ x0).setCell ⟨b,1,none⟩ x1).setCell ⟨b,2,none⟩ x2).setCell ⟨b,3,none⟩ x3).heap[b]? = some (.cells #[x0,x1,x2,x3] e (0,0)):=by
 rw[zaE (zaE (zaE (zaE h x0) x1) x2) x3]
 obtain⟨l⟩:=cur
 match l,hc with
 | [a,b,c,d],_=>rfl
theorem BO.set4 {B b:Nat}{w w':World}(h:Below B w w')(hB:B<=w.heap.size)(x0 x1 x2 x3:Value):BO B (some b) w ((((w'.setCell ⟨b,0,none⟩ x0).setCell ⟨b,1,none⟩ x1).setCell ⟨b,2,none⟩ x2).setCell ⟨b,3,none⟩ x3):=
 ⟨h.os,h.tape,h.output,by rw[zaJ,zaJ,zaJ,zaJ];exact h.size,fun k hk hne=>(chg4 w' b x0 x1 x2 x3 k (Nat.lt_of_lt_of_le hk (Nat.le_trans hB h.size)) hne).trans (h.block k hk)⟩
def closeV (vals:List Int)(cs:List Ctl):Option (List Int×Ctl):=match cs.getLast? with
 | none=>none
 | some c=>match wantV (some c) vals c.fin.reverse with
  | none=>none
  | some vs=>if (vs.length:Int)≠c.ht then none else some (vs,c)
def cvE (o:Option (List Int×Ctl)):Int:=match o with
 | none=>5
 | some _=>0
def cvC (o:Option (List Int×Ctl)):Ctl:=match o with
 | none=>zeroC
 | some p=>p.2
def cvL (o:Option (List Int×Ctl)):List Int:=match o with
 | none=>[]
 | some p=>p.1
def closeMade (s:Stk)(o:Option (List Int×Ctl)):Stk×Ctl×Int:=if sane s=false then (none_,zeroC,1) else match o with
 | none=>(none_,zeroC,5)
 | some (vs,c)=>(⟨vs,s.cs.dropLast⟩,c,0)
theorem closeS_is (s:Stk):zaM s=closeMade s (closeV s.vals s.cs):=by
 unfold zaM closeMade closeV
 split
 ·rfl
 ·cases s.cs.getLast? with
  | none=>rfl
  | some c=>
   simp only
   cases wantV (some c) s.vals c.fin.reverse with
   | none=>rfl
   | some vs=>
    simp only
    split <;> rfl
theorem closed1 {B D b:Nat}{vv cv:Value}{vals:List Int}{l:List CtV}{W:World}(h:Dr W B D vv cv vals l)(hl:vals.length<=1000000)(hll:l.length<=1000000)(hfl:∀p∈l,p.1.fin.length<=1000000)(hb:b<B)(hz:W.heap[b]? = some zCells):
  Calls Tryz.prog 84 #[.pointer (some ⟨D,0,none⟩),.pointer (some ⟨b,0,none⟩)] W fun e W'=>e= .returned (.int .i64 (cvE (closeV vals (l.map (·.1)))))/\CtlAt W' b (cvC (closeV vals (l.map (·.1))))/\(cvE (closeV vals (l.map (·.1)))=0->∀W2,(∀k,B<=k->k<W'.heap.size->W2.heap[k]? = W'.heap[k]?)->Left W2 D ⟨cvL (closeV vals (l.map (·.1))),(l.map (·.1)).dropLast⟩)/\BO B (some b) W W':=by
 have hBw:B<=W.heap.size:=Nat.le_trans h.hD (Nat.le_of_lt h.lt)
 have key:Calls Tryz.prog 85 #[.pointer (some ⟨D,0,none⟩)] W fun e w'=>Below B W w'/\((closeV vals (l.map (·.1))=none/\ClosedNo e)\/∃p vs,closeV vals (l.map (·.1))=some (vs,p.1)/\ClosedYes B D p ⟨vs,(l.map (·.1)).dropLast⟩ e w'):=by
  cases hp:l.getLast? with
  | none=>
   have h0:l = []:=List.getLast?_eq_none_iff.1 hp
   subst h0
   exact(close_none h hBw).mono fun e w' hh=>⟨hh.2,.inl ⟨rfl,hh.1⟩⟩
  | some p=>
   obtain⟨q,rfl⟩:∃q,l=q ++ [p]:=List.getLast?_eq_some_iff.1 hp
   have e1:((q ++ [p]).map (·.1)).getLast? = some p.1:=by simp
   have e2:((q ++ [p]).map (·.1)).dropLast=q.map (·.1):=by simp
   have ec:closeV vals ((q ++ [p]).map (·.1))=match wantV (some p.1) vals p.1.fin.reverse with
    | none=>none
    | some vs=>if (vs.length:Int)≠p.1.ht then none else some (vs,p.1):=by
    unfold closeV
    rw[e1]
   refine(close_some h hl (hfl p (by simp)) (by simp at hll;omega) hBw _ rfl).mono fun e w' hh=>⟨hh.2.2,?_⟩
   rw[ec,e2]
   cases hw:wantV (some p.1) vals p.1.fin.reverse with
   | none=>exact .inl ⟨rfl,hh.1 (fun vs hvs=>by rw[hw] at hvs;cases hvs)⟩
   | some vs=>
    by_cases hv:(vs.length:Int)=p.1.ht
    ·exact .inr ⟨p,vs,by simp[hv],hh.2.1 vs hw hv⟩
    ·exact .inl ⟨by simp[hv],hh.1 (fun vs' hvs=>by rw[hw] at hvs;obtain rfl:=Option.some.inj hvs;exact hv)⟩
 have HC:=hid key
 have HZ:=hid hz
 have HB:=hid hb
 have HBw:=hid hBw
 have HD:=hid h.hD
 generalize closeV vals (l.map (·.1))=o at *
 clear h hl hll hfl hb hz key hBw
 go_enter Tryz.func84,Tryz.ntmps84
 go_wp2_with fail
 refine HC.out.mono ?_
 rintro e w1 ⟨hbe,hw⟩
 have HBe:=hid hbe
 have hz1:=(hbe.block b HB.out).trans HZ.out
 have HZ1:=hid hz1
 unfold zCells at hz1
 obtain⟨q0,p0⟩:=zaA hz1 0
 obtain⟨q1,p1⟩:=zaA hz1 1
 obtain⟨q2,p2⟩:=zaA hz1 2
 obtain⟨q3,p3⟩:=zaA hz1 3
 simp only[List.getElem?_toArray,List.getElem?_cons_zero,List.getElem?_cons_succ] at q0 q1 q2 q3
 rcases hw with ⟨rfl,he⟩ | ⟨p,vs,rfl,he,hL⟩
 ·unfold ClosedNo zC at he
  subst he
  have HQ:=hid (CtlAt.zero (set4_heap hz1 (.int .i64 0) (.slice none 0 0) (.int .i64 0) (.bool false) rfl))
  clear hz1 hbe
  go_wp2_with fail
  exact bodyPost_ret (v:=.int .i64 5) (by simp[results,Tryz.results84,go_sem]) rfl ⟨rfl,HQ.out,(fun h=>absurd h (by decide)),BO.set4 HBe.out HBw.out _ _ _ _⟩
 ·unfold cc at he
  subst he
  have hhi:∀k,B<=k->k<w1.heap.size->((((w1.setCell ⟨b,0,none⟩ (.int .i64 p.1.op)).setCell ⟨b,1,none⟩ p.2).setCell ⟨b,2,none⟩ (.int .i64 p.1.ht)).setCell ⟨b,3,none⟩ (.bool p.1.dead)).heap[k]? = w1.heap[k]?:=fun k h1 h2=>chg4 w1 b _ _ _ _ k h2 (by intro e;have:=Option.some.inj e;have:=HB.out;omega)
  have HQ:Hid (CtlAt ((((w1.setCell ⟨b,0,none⟩ (.int .i64 p.1.op)).setCell ⟨b,1,none⟩ p.2).setCell ⟨b,2,none⟩ (.int .i64 p.1.ht)).setCell ⟨b,3,none⟩ (.bool p.1.dead)) b p.1):=⟨p.2,set4_heap hz1 _ _ _ _ rfl,(hL _ hhi).2⟩
  have HLL:Hid (∀W2:World,(∀k,B<=k->k<((((w1.setCell ⟨b,0,none⟩ (.int .i64 p.1.op)).setCell ⟨b,1,none⟩ p.2).setCell ⟨b,2,none⟩ (.int .i64 p.1.ht)).setCell ⟨b,3,none⟩ (.bool p.1.dead)).heap.size->W2.heap[k]? = ((((w1.setCell ⟨b,0,none⟩ (.int .i64 p.1.op)).setCell ⟨b,1,none⟩ p.2).setCell ⟨b,2,none⟩ (.int .i64 p.1.ht)).setCell ⟨b,3,none⟩ (.bool p.1.dead)).heap[k]?)->Left W2 D ⟨vs,(l.map (·.1)).dropLast⟩):=fun W2 hW=>(hL W2 fun k h1 h2=>(hW k h1 (by rw[zaJ,zaJ,zaJ,zaJ];exact h2)).trans (hhi k h1 h2)).1
  obtain⟨Pe,ne,ce,hpe⟩:∃P n c,p.2= .slice P n c:=by
   obtain⟨A,c,e,_⟩:=(hL w1 (fun _ _ _=>rfl)).2.form
   exact⟨_,_,_,e⟩
  rw[hpe] at HQ HLL ⊢
  clear hz1 hbe hhi hL hpe
  go_wp2_with fail
  exact bodyPost_ret (v:=.int .i64 0) (by simp[results,Tryz.results84,go_sem]) rfl ⟨rfl,HQ.out,(fun _=>HLL.out),BO.set4 HBe.out HBw.out _ _ _ _⟩
def CloseEnds (r:Stk×Ctl×Int)(w:World)(e:Ending)(w':World):Prop:=(∃v u,e= .returned (.tuple #[v,.agg #[.int .i64 r.2.1.op,u,.int .i64 r.2.1.ht,.bool r.2.1.dead],.int .i64 r.2.2])/\StIs elP w' v r.1/\Row elB w' u r.2.1.fin)/\Below w.heap.size w w'
theorem Close_any {a c:Value}{vals:List Int}{l:List CtV}{w:World}(ha:Row elB w a vals)(hc:Row elP w c l)(hvl:vals.length<=400000)(hll:l.length<=400000):
  Calls Tryz.prog 52 #[.agg #[a,c]] w (CloseEnds (zaM ⟨vals,l.map (·.1)⟩) w):=by
 have hmf:=mkf
 have HA:=hid ha
 have HC:=hid hc
 have HL:=hid hvl
 have HLL:=hid hll
 obtain⟨Pa,ca,rfl,y1,y2⟩:=ha.form
 obtain⟨Pc,cc_,rfl,y3,y4⟩:=hc.form
 obtain⟨nv,hnv⟩:∃n,vals.length=n:=⟨_,rfl⟩
 obtain⟨nl,hnl⟩:∃n,l.length=n:=⟨_,rfl⟩
 rw[closeS_is]
 obtain⟨o,ho⟩:∃o,closeV vals (l.map (·.1))=o:=⟨_,rfl⟩
 have HO:=hid ho
 show Calls _ _ _ _ (CloseEnds (closeMade ⟨vals,l.map (·.1)⟩ (closeV vals (l.map (·.1)))) w)
 rw[ho]
 rw[hnv] at HA ⊢
 rw[hnl] at HC ⊢
 have HNL:=hid hnl
 have HB3:=hid (below4 w (.cells #[.slice Pa nv ca,.slice Pc nl cc_] 39) (.cells #[.slice none 0 0,.slice none 0 0] 39) zCells zCells)
 have HSz:Hid (((((w.alloc (.cells #[.slice Pa nv ca,.slice Pc nl cc_] 39)).alloc (.cells #[.slice none 0 0,.slice none 0 0] 39)).alloc zCells).alloc zCells).heap.size=w.heap.size+1+1+1+1):=by
  show _=_
  rw[zaD,zaD,zaD,zaD]
 have HZ1:Hid (((((w.alloc (.cells #[.slice Pa nv ca,.slice Pc nl cc_] 39)).alloc (.cells #[.slice none 0 0,.slice none 0 0] 39)).alloc zCells).alloc zCells).heap[w.heap.size+1]? = some (.cells #[.slice none 0 0,.slice none 0 0] 39 (0,0))):=by
  show _=_
  rw[(below2 ((w.alloc (.cells #[.slice Pa nv ca,.slice Pc nl cc_] 39)).alloc (.cells #[.slice none 0 0,.slice none 0 0] 39)) zCells zCells).block (w.heap.size+1) (by simp only[zaD];omega)]
  have:=zaC (w.alloc (.cells #[.slice Pa nv ca,.slice Pc nl cc_] 39)) (.cells #[.slice none 0 0,.slice none 0 0] 39)
  rw[zaD] at this
  exact this
 have HZ2:Hid (((((w.alloc (.cells #[.slice Pa nv ca,.slice Pc nl cc_] 39)).alloc (.cells #[.slice none 0 0,.slice none 0 0] 39)).alloc zCells).alloc zCells).heap[w.heap.size+1+1]? = some zCells):=by
  show _=_
  rw[(zaB (((w.alloc (.cells #[.slice Pa nv ca,.slice Pc nl cc_] 39)).alloc (.cells #[.slice none 0 0,.slice none 0 0] 39)).alloc zCells) zCells).block (w.heap.size+1+1) (by simp only[zaD];omega)]
  have:=zaC ((w.alloc (.cells #[.slice Pa nv ca,.slice Pc nl cc_] 39)).alloc (.cells #[.slice none 0 0,.slice none 0 0] 39)) zCells
  rw[zaD,zaD] at this
  exact this
 have HX:=hid (zaC (((w.alloc (.cells #[.slice Pa nv ca,.slice Pc nl cc_] 39)).alloc (.cells #[.slice none 0 0,.slice none 0 0] 39)).alloc zCells) zCells)
 simp only[zaD] at HX
 clear y1 y2 y3 y4 ha hc hvl hll hnv hnl ho
 go_enter Tryz.func52,Tryz.ntmps52
 go_wp2_with fail
 change Calls _ _ _ ((((w.alloc (.cells #[.slice Pa nv ca,.slice Pc nl cc_] 39)).alloc (.cells #[.slice none 0 0,.slice none 0 0] 39)).alloc zCells).alloc zCells) _
 generalize (((w.alloc (.cells #[.slice Pa nv ca,.slice Pc nl cc_] 39)).alloc (.cells #[.slice none 0 0,.slice none 0 0] 39)).alloc zCells).alloc zCells=w3 at *
 obtain⟨b,hb⟩:∃b,w.heap.size+1+1+1=b:=⟨_,rfl⟩
 obtain⟨r2,hr2⟩:∃r,w.heap.size+1+1=r:=⟨_,rfl⟩
 obtain⟨r1,hr1⟩:∃r,w.heap.size+1=r:=⟨_,rfl⟩
 have HR:Hid (w.heap.size<=r1/\r1<r2/\r2<b/\b<w3.heap.size):=⟨by omega,by omega,by omega,by rw[HSz.out];omega⟩
 rw[hb] at HX
 rw[hr2] at HZ2
 rw[hr1] at HZ1
 simp only[hb]
 simp only[hr2]
 simp only[hr1]
 clear hr1 hr2 hb HSz
 have HCh:=hid (changed_high (b:=some b) (e0:=cvE o) (s':=⟨cvL o,(l.map (·.1)).dropLast⟩) (K:=fun W=>CtlAt W b (cvC o)) (caps:=#[.pointer (some ⟨b,0,none⟩)]) (HA.out.keep HB3.out) (HC.out.keep HB3.out) (by have:=HL.out;omega) (by have:=HLL.out;omega) (k:=84) ⟨_,Tryz.func84,by kernel_rfl,by kernel_rfl⟩
  (fun W W' r' hK hr' hN hch hs=>by
   obtain⟨u,h1,h2⟩:=hK
   exact⟨u,(hch b (lt_of_heap h1) (by have:=HR.out.2.2.2;intro e;have:=Option.some.inj e;omega)).trans h1,row_besideB h2 hN hch hs⟩)
  (fun hsn W B D vv cv l' hB hW hd hl'=>by
   have hz:=(hW.block b HR.out.2.2.2).trans HX.out
   have hll':l'.length=l.length:=by have:=congrArg List.length hl';simpa using this
   rw[<- HO.out,<- hl']
   exact closed1 hd (by have:=HL.out;omega) (by have:=HLL.out;omega) (fun p hp=>by
    have h1:=(sane_facts hsn).1 p.1 (by show p.1∈l.map (·.1);rw[<- hl'];exact List.mem_map_of_mem hp)
    have:=mayE_len h1.2.2
    omega) (Nat.lt_of_lt_of_le HR.out.2.2.2 hB) hz) (fun x hx e=>by have:=HR.out.2.2.2;have:=Option.some.inj e;omega))
 refine HCh.out.mono ?_
 rintro e w4 hch
 have HU:∃v ms mc ee,closeMade ⟨vals,l.map (·.1)⟩ o=(ms,mc,ee)/\e= .returned (.tuple #[v,.int .i64 ee])/\(∀W:World,(∀k,w3.heap.size<=k->k<w4.heap.size->W.heap[k]? = w4.heap[k]?)->StIs elP W v ms)/\CtlAt w4 b mc/\BO w3.heap.size (some b) w3 w4:=by
  unfold closeMade
  rcases hch with ⟨h1,h2,h3⟩ | ⟨h1,h2,h3,h4,h5⟩ | ⟨h1,h2,v,h3,h4,h5,h6⟩
  ·rw[if_pos h1]
   exact⟨_,_,_,_,rfl,h2,fun W _=>zS_is W,CtlAt.zero ((h3.block b HR.out.2.2.2).trans HX.out),BO.of_below h3⟩
  ·rw[if_neg (by rw[h1];decide)]
   cases o with
   | none=>exact ⟨_,_,_,_,rfl,h3,fun W _=>zS_is W,h4,h5⟩
   | some p=>exact absurd rfl h2
  ·rw[if_neg (by rw[h1];decide)]
   cases o with
   | none=>exact absurd h2 (by decide)
   | some p=>exact ⟨_,_,_,_,rfl,h3,h4,h5,h6⟩
 obtain⟨v,ms,mc,ee,hu,rfl,hv,⟨u,hub,hur⟩,hbo⟩:=HU
 have HUU:=hid hu
 have hz1:=(hbo.block r1 (by have:=HR.out;omega) (by have:=HR.out;intro e;have:=Option.some.inj e;omega)).trans HZ1.out
 have hz2:=(hbo.block r2 (by have:=HR.out;omega) (by have:=HR.out;intro e;have:=Option.some.inj e;omega)).trans HZ2.out
 have HB4:Hid (Below w.heap.size w w4):=HB3.out.trans ⟨hbo.os,hbo.tape,hbo.output,hbo.size,fun k hk=>hbo.block k (Nat.lt_of_lt_of_le hk HB3.out.size) (by have:=HR.out;intro e;have:=Option.some.inj e;omega)⟩
 have HS4:=hid hbo.size
 obtain⟨P1,n1,c1,P2,n2,c2,rfl⟩:∃P n c Q m d,v= .agg #[.slice P n c,.slice Q m d]:=by
  obtain⟨a,c,l9,rfl,h1,h2,_⟩:=hv w4 (fun _ _ _=>rfl)
  obtain⟨A1,k1,rfl,_⟩:=h1.form
  obtain⟨A2,k2,rfl,_⟩:=h2.form
  exact⟨_,_,_,_,_,_,rfl⟩
 obtain⟨P3,n3,c3,rfl⟩:∃P n c,u= .slice P n c:=by
  obtain⟨A1,k1,e,_⟩:=hur.form
  exact⟨_,_,_,e⟩
 have HV:=hid hv
 have HB5:=hid (zaB w4 (.cells #[.slice P1 n1 c1,.slice P2 n2 c2] 39))
 have HX5:=hid (zaC w4 (.cells #[.slice P1 n1 c1,.slice P2 n2 c2] 39))
 have HZ1':=hid ((HB5.out.block r1 (lt_of_heap hz1)).trans hz1)
 have HZ2':=hid ((HB5.out.block r2 (lt_of_heap hz2)).trans hz2)
 have HZb':=hid ((HB5.out.block b (lt_of_heap hub)).trans hub)
 have HUR:=hid (hur.keep HB5.out)
 have HLT:=hid (lt_of_heap hub)
 clear hz1 hz2 hub hur hv hbo hu hch HCh
 go_wp2_with fail
 generalize w4.alloc (.cells #[.slice P1 n1 c1,.slice P2 n2 c2] 39)=w7 at *
 obtain⟨x,hx⟩:∃x,w4.heap.size=x:=⟨_,rfl⟩
 rw[hx] at HX5
 simp only[hx]
 have hxb:b<x:=by rw[<- hx];exact HLT.out
 obtain⟨x0,x1⟩:w7.cell? ⟨x,0,none⟩=some (.slice P1 n1 c1)/\w7.cell? ⟨x,1,none⟩=some (.slice P2 n2 c2):=⟨(zaA HX5.out 0).1,(zaA HX5.out 1).1⟩
 obtain⟨k0,k1,k2,k3⟩:w7.cell? ⟨b,0,none⟩=some (.int .i64 mc.op)/\w7.cell? ⟨b,1,none⟩=some (.slice P3 n3 c3)/\w7.cell? ⟨b,2,none⟩=some (.int .i64 mc.ht)/\w7.cell? ⟨b,3,none⟩=some (.bool mc.dead):=⟨(zaA HZb'.out 0).1,(zaA HZb'.out 1).1,(zaA HZb'.out 2).1,(zaA HZb'.out 3).1⟩
 obtain⟨q0,q1⟩:w7.cell? ⟨r1,0,none⟩=some (.slice none 0 0)/\w7.cell? ⟨r1,1,none⟩=some (.slice none 0 0):=⟨(zaA HZ1'.out 0).1,(zaA HZ1'.out 1).1⟩
 obtain⟨p0,p1⟩:w7.frozen? ⟨r1,0,none⟩=false/\w7.frozen? ⟨r1,1,none⟩=false:=⟨(zaA HZ1'.out 0).2,(zaA HZ1'.out 1).2⟩
 obtain⟨s0,s1,s2,s3⟩:w7.cell? ⟨r2,0,none⟩=some (.int .i64 0)/\w7.cell? ⟨r2,1,none⟩=some (.slice none 0 0)/\w7.cell? ⟨r2,2,none⟩=some (.int .i64 0)/\w7.cell? ⟨r2,3,none⟩=some (.bool false):=⟨(zaA HZ2'.out 0).1,(zaA HZ2'.out 1).1,(zaA HZ2'.out 2).1,(zaA HZ2'.out 3).1⟩
 obtain⟨t0,t1,t2,t3⟩:w7.frozen? ⟨r2,0,none⟩=false/\w7.frozen? ⟨r2,1,none⟩=false/\w7.frozen? ⟨r2,2,none⟩=false/\w7.frozen? ⟨r2,3,none⟩=false:=⟨(zaA HZ2'.out 0).2,(zaA HZ2'.out 1).2,(zaA HZ2'.out 2).2,(zaA HZ2'.out 3).2⟩
 have d1:b≠r1:=by have:=HR.out;omega
 have d2:b≠r2:=by have:=HR.out;omega
 have d3:x≠r1:=by have:=HR.out;omega
 have d4:x≠r2:=by have:=HR.out;omega
 have d5:r2≠r1:=by have:=HR.out;omega
 have d6:r1≠r2:=by have:=HR.out;omega
 clear hx hxb
 go_region
 clear d1 d2 d3 d4 d5 x0 x1 k0 k1 k2 k3 q0 q1 p0 p1 s0 s1 s2 s3 t0 t1 t2 t3
 have HC1:=hid (chg2 w7 r1 (.slice P1 n1 c1) (.slice P2 n2 c2))
 have HZ18:=hid (zaE (i:=1) (zaE (i:=0) HZ1'.out (.slice P1 n1 c1)) (.slice P2 n2 c2))
 have HB8:=hid (((HB4.out.trans (HB5.out.mono HB4.out.size)).setCell (p:=⟨r1,0,none⟩) HR.out.1 (.slice P1 n1 c1)).setCell (p:=⟨r1,1,none⟩) HR.out.1 (.slice P2 n2 c2))
 have HN8:Hid (((w7.setCell ⟨r1,0,none⟩ (.slice P1 n1 c1)).setCell ⟨r1,1,none⟩ (.slice P2 n2 c2)).heap.size=w7.heap.size):=by show _=_;rw[zaJ,zaJ]
 generalize (w7.setCell ⟨r1,0,none⟩ (.slice P1 n1 c1)).setCell ⟨r1,1,none⟩ (.slice P2 n2 c2)=w8 at *
 have HU8:=hid (row_besideB HUR.out (noint2 HZ1'.out) HC1.out (Nat.le_of_eq HN8.out.symm))
 have HZ28:=hid ((HC1.out r2 (lt_of_heap HZ2'.out) (by intro e;exact d6 (Option.some.inj e).symm)).trans HZ2'.out)
 have HC2:=hid (chg4 w8 r2 (.int .i64 mc.op) (.slice P3 n3 c3) (.int .i64 mc.ht) (.bool mc.dead))
 have HZ29:=hid (set4_heap HZ28.out (.int .i64 mc.op) (.slice P3 n3 c3) (.int .i64 mc.ht) (.bool mc.dead) rfl)
 have hR2:w.heap.size<=r2:=by have:=HR.out;omega
 have HB9:=hid (((((HB8.out.setCell (p:=⟨r2,0,none⟩) hR2 (.int .i64 mc.op)).setCell (p:=⟨r2,1,none⟩) hR2 (.slice P3 n3 c3)).setCell (p:=⟨r2,2,none⟩) hR2 (.int .i64 mc.ht)).setCell (p:=⟨r2,3,none⟩) hR2 (.bool mc.dead)).drew)
 have HN9:Hid (((((w8.setCell ⟨r2,0,none⟩ (.int .i64 mc.op)).setCell ⟨r2,1,none⟩ (.slice P3 n3 c3)).setCell ⟨r2,2,none⟩ (.int .i64 mc.ht)).setCell ⟨r2,3,none⟩ (.bool mc.dead)).heap.size=w8.heap.size):=by show _=_;rw[zaJ,zaJ,zaJ,zaJ]
 generalize (((w8.setCell ⟨r2,0,none⟩ (.int .i64 mc.op)).setCell ⟨r2,1,none⟩ (.slice P3 n3 c3)).setCell ⟨r2,2,none⟩ (.int .i64 mc.ht)).setCell ⟨r2,3,none⟩ (.bool mc.dead)=w9 at *
 have HU9:=hid ((row_besideU HU8.out (nou8_4 HZ28.out) HC2.out (Nat.le_of_eq HN9.out.symm)).keep (zaI w9))
 have HZ19:=(HC2.out r1 (lt_of_heap HZ18.out) (by intro e;exact d6 (Option.some.inj e))).trans HZ18.out
 have HV9:Hid (StIs elP w9.drew (.agg #[.slice P1 n1 c1,.slice P2 n2 c2]) ms):=HV.out w9.drew fun k h1 h2=>by
  show w9.heap[k]? = _
  have hs:=HS4.out
  have h7:k<w7.heap.size:=Nat.lt_of_lt_of_le h2 HB5.out.size
  rw[HC2.out k (by rw[HN8.out];exact h7) (by intro e;have:=Option.some.inj e;have:=HR.out;omega),HC1.out k h7 (by intro e;have:=Option.some.inj e;have:=HR.out;omega)]
  exact HB5.out.block k h2
 have y0:w9.drew.cell? ⟨r1,0,none⟩=some (.slice P1 n1 c1):=(zaA HZ19 0).1
 have y1:w9.drew.cell? ⟨r1,1,none⟩=some (.slice P2 n2 c2):=(zaA HZ19 1).1
 have z0:w9.drew.cell? ⟨r2,0,none⟩=some (.int .i64 mc.op):=(zaA HZ29.out 0).1
 have z1:w9.drew.cell? ⟨r2,1,none⟩=some (.slice P3 n3 c3):=(zaA HZ29.out 1).1
 have z2:w9.drew.cell? ⟨r2,2,none⟩=some (.int .i64 mc.ht):=(zaA HZ29.out 2).1
 have z3:w9.drew.cell? ⟨r2,3,none⟩=some (.bool mc.dead):=(zaA HZ29.out 3).1
 clear HZ19 hR2 d6
 generalize w9.drew=w10 at *
 go_wp2_with fail
 refine bodyPost_ret (v:=.tuple #[.agg #[.slice P1 n1 c1,.slice P2 n2 c2],.agg #[.int .i64 mc.op,.slice P3 n3 c3,.int .i64 mc.ht,.bool mc.dead],.int .i64 ee]) (by simp[results,Tryz.results52,go_sem,y0,y1,z0,z1,z2,z3]) rfl ⟨⟨_,_,by rw[HUU.out],by rw[HUU.out];exact HV9.out,by rw[HUU.out];exact HU9.out⟩,HB9.out⟩
def LabTold (r:List Int×Int)(w:World)(e:Ending)(w':World):Prop:=(∃v,e= .returned (.tuple #[v,.int .i64 r.2])/\Row elB w' v r.1)/\Below w.heap.size w w'
theorem label_no {s:Stk}{n:Int}(h:sane s=false):labelS s n=([],1):=by unfold labelS;rw[if_pos h]
theorem label_out {s:Stk}{n:Int}(h:sane s=true)(hn:n<0\/(s.cs.length:Int)<=n):labelS s n=([],6):=by unfold labelS;rw[if_neg (by rw[h];decide),if_pos hn]
theorem label_at {s:Stk}{n:Int}{c:Ctl}{k:Nat}(h:sane s=true)(hn:¬ (n<0\/(s.cs.length:Int)<=n))(hk:(k:Int)=s.cs.length - 1 - n)(hc:s.cs[k]? = some c):labelS s n=if c.op=3 then ([],0) else (c.fin,0):=by
 unfold labelS
 rw[if_neg (by rw[h];decide),if_neg hn,show s.cs.length - 1 - n.toNat=k from by omega,hc]
theorem Label_any {a c:Value}{vals:List Int}{l:List CtV}{n:Int}{w:World}(ha:Row elB w a vals)(hc:Row elP w c l)(hn:w64 n)(hll:l.length<=400000)(hel:∀p∈l,p.1.fin.length<=1000000):
  Calls Tryz.prog 157 #[.agg #[a,c],.int .i64 n] w (LabTold (labelS ⟨vals,l.map (·.1)⟩ n) w):=by
 have HC:=hid hc
 have HB0:=hid (zaB w (.cells #[a,c] 39))
 have HS:=hid (sane_any (ha.keep HB0.out) (hc.keep HB0.out))
 have HX:=hid (fun W (hW:Below (w.alloc (.cells #[a,c] 39)).heap.size (w.alloc (.cells #[a,c] 39)) W)=>box2_keep hW)
 obtain⟨Pa,ca,rfl,_⟩:=ha.form
 obtain⟨Pc,cc_,rfl,_⟩:=hc.form
 obtain⟨nv,hnv⟩:∃n,vals.length=n:=⟨_,rfl⟩
 obtain⟨nl,hnl⟩:∃n,l.length=n:=⟨_,rfl⟩
 have HNL:=hid hnl
 have hml:(l.map (·.1)).length=nl:=by rw[List.length_map,hnl]
 have HML:=hid hml
 rw[hnv] at HB0 HS HX ⊢
 rw[hnl] at HB0 HS HX HC hll ⊢
 obtain⟨R,hR⟩:∃R,labelS ⟨vals,l.map (·.1)⟩ n=R:=⟨_,rfl⟩
 have HR:=hid hR
 have HEL:=hid hel
 rw[hR]
 clear ha hc hnv hnl hml hR hel
 cases hs:sane ⟨vals,l.map (·.1)⟩ with
 | false=>
  have HQ:Hid (R=([],1)):=HR.out.symm.trans (label_no hs)
  rw[hs] at HS
  clear hs
  go_enter Tryz.func157,Tryz.ntmps157
  go_wp2_with fail
  refine HS.out.mono ?_
  rintro e w1 ⟨rfl,hb⟩
  have HB1:=hid (HB0.out.trans (hb.mono HB0.out.size))
  clear hb HS
  go_wp2_with fail
  refine bodyPost_ret (v:=.tuple #[.slice none 0 0,.int .i64 1]) (by simp[results,Tryz.results157,go_sem]) rfl ?_
  rw[HQ.out]
  exact⟨⟨_,rfl,Row.nil _ _⟩,HB1.out⟩
 | true=>
  have HSN:=hid hs
  rw[hs] at HS
  clear hs
  by_cases h0:n<0
  ·have HQ:Hid (R=([],6)):=HR.out.symm.trans (label_out HSN.out (.inl h0))
   have t1:decide (n<0)=true:=decide_eq_true h0
   clear h0
   go_enter Tryz.func157,Tryz.ntmps157
   go_wp2_with fail
   refine HS.out.mono ?_
   rintro e w1 ⟨rfl,hb⟩
   have HB1:=hid (HB0.out.trans (hb.mono HB0.out.size))
   clear hb HS
   go_wp2_with fail
   refine bodyPost_ret (v:=.tuple #[.slice none 0 0,.int .i64 6]) (by simp[results,Tryz.results157,go_sem]) rfl ?_
   rw[HQ.out]
   exact⟨⟨_,rfl,Row.nil _ _⟩,HB1.out⟩
  ·have t1:decide (n<0)=false:=decide_eq_false h0
   by_cases h1:(nl:Int)<=n
   ·have HQ:Hid (R=([],6)):=HR.out.symm.trans (label_out HSN.out (.inr (by show ((l.map (·.1)).length:Int)<=n;rw[HML.out];exact h1)))
    have t2:decide ((nl:Int)<=n)=true:=decide_eq_true h1
    clear h0 h1
    go_enter Tryz.func157,Tryz.ntmps157
    go_wp2_with fail
    refine HS.out.mono ?_
    rintro e w1 ⟨rfl,hb⟩
    have HB1:=hid (HB0.out.trans (hb.mono HB0.out.size))
    obtain⟨x0,x1⟩:=HX.out w1 hb
    clear hb HS
    go_wp2_with fail
    refine bodyPost_ret (v:=.tuple #[.slice none 0 0,.int .i64 6]) (by simp[results,Tryz.results157,go_sem]) rfl ?_
    rw[HQ.out]
    exact⟨⟨_,rfl,Row.nil _ _⟩,HB1.out⟩
   ·have t2:decide ((nl:Int)<=n)=false:=decide_eq_false h1
    obtain⟨k,hk⟩:∃k:Nat,(k:Int)=nl - 1 - n:=⟨((nl:Int) - 1 - n).toNat,by omega⟩
    have hkl:k<nl:=by omega
    obtain⟨p,hp⟩:∃p,l[k]? = some p:=⟨_,List.getElem?_eq_getElem (by rw[HNL.out];exact hkl)⟩
    have hp':(l.map (·.1))[k]? = some p.1:=by rw[List.getElem?_map,hp];rfl
    have hq:=HR.out.symm.trans (label_at HSN.out (by show ¬ (n<0\/((l.map (·.1)).length:Int)<=n);rw[HML.out];omega) (by show (k:Int)=((l.map (·.1)).length:Int) - 1 - n;rw[HML.out];exact hk) hp')
    have HP:=hid hp
    have e1:IntKind.i64.wrap ((nl:Int) - 1)=(nl:Int) - 1:=IntWalk.i64_in _ (by omega)
    have e2:IntKind.i64.wrap ((nl:Int) - 1 - n)=(k:Int):=by rw[IntWalk.i64_in _ (by omega)];omega
    have i1:(0:Int)<=(k:Int):=by omega
    have i2:(k:Int)<(nl:Int):=by omega
    obtain⟨op,hop⟩:∃op,p.1.op=op:=⟨_,rfl⟩
    rw[hop] at hq
    have HOP:=hid hop
    cases h3:(op == 3) with
    | true=>
     have HQ:Hid (R=([],0)):=by show _=_;rw[hq,if_pos (by simpa using h3)]
     clear h0 h1 hk hkl hp hp' hq hop
     go_enter Tryz.func157,Tryz.ntmps157
     go_wp2_with fail
     refine HS.out.mono ?_
     rintro e w1 ⟨rfl,hb⟩
     have HB1:=hid (HB0.out.trans (hb.mono HB0.out.size))
     obtain⟨x0,x1⟩:=HX.out w1 hb
     obtain⟨g,off,rfl,hg,k0,k1,k2,k3,hO⟩:=ctl_at (HC.out.keep HB1.out) HP.out
     obtain⟨Pe,ce,hpe,_⟩:=hO.1.form
     rw[HOP.out] at k0
     rw[hpe] at k1
     obtain⟨qq,hqq⟩:∃qq,off+k*4=qq:=⟨_,rfl⟩
     rw[hqq] at k0 k1 k2 k3
     clear hb HS hg hO hpe
     go_wp2_with fail
     refine bodyPost_ret (v:=.tuple #[.slice none 0 0,.int .i64 0]) (by simp[results,Tryz.results157,go_sem]) rfl ?_
     rw[HQ.out]
     exact⟨⟨_,rfl,Row.nil _ _⟩,HB1.out.alloc HB1.out.size _⟩
    | false=>
     have HQ:Hid (R=(p.1.fin,0)):=by show _=_;rw[hq,if_neg (by simpa using h3)]
     clear h0 h1 hk hkl hp hp' hq hop
     go_enter Tryz.func157,Tryz.ntmps157
     go_wp2_with fail
     refine HS.out.mono ?_
     rintro e w1 ⟨rfl,hb⟩
     have HB1:=hid (HB0.out.trans (hb.mono HB0.out.size))
     obtain⟨x0,x1⟩:=HX.out w1 hb
     obtain⟨g,off,rfl,hg,k0,k1,k2,k3,hO⟩:=ctl_at (HC.out.keep HB1.out) HP.out
     obtain⟨Pe,ce,hpe,_⟩:=hO.1.form
     obtain⟨ht,hht⟩:∃ht,p.1.ht=ht:=⟨_,rfl⟩
     obtain⟨dd,hdd⟩:∃dd,p.1.dead=dd:=⟨_,rfl⟩
     obtain⟨ne,hne⟩:∃ne,p.1.fin.length=ne:=⟨_,rfl⟩
     rw[hne] at hpe
     rw[HOP.out] at k0
     rw[hht] at k2
     rw[hdd] at k3
     obtain⟨qq,hqq⟩:∃qq,off+k*4=qq:=⟨_,rfl⟩
     rw[hqq] at k0 k1 k2 k3
     rw[hpe] at k1
     have HBn:=hid (zaB w1 (.cells #[.int .i64 op,.slice Pe ne ce,.int .i64 ht,.bool dd] 72))
     have HCl:=hid (clone_any (hO.1.keep HBn.out) (HEL.out p (List.mem_of_getElem? HP.out)))
     rw[hpe] at HCl
     clear hb HS hg hO hpe hht hdd hne
     go_wp2_with fail
     refine HCl.out.mono ?_
     rintro e w2 ⟨⟨v,rfl,ho⟩,hb2⟩
     have HRw:=hid (ho.row (fun x hx=>((HC.out.2 p (List.mem_of_getElem? HP.out)).1.2 x hx)))
     have HB2:=hid ((HB1.out.trans (HBn.out.mono HB1.out.size)).trans (hb2.mono (HB1.out.trans (HBn.out.mono HB1.out.size)).size))
     obtain⟨Pv,cv,rfl,_⟩:=HRw.out.form
     clear ho hb2
     go_wp2_with fail
     refine bodyPost_ret (v:=.tuple #[.slice Pv p.1.fin.length cv,.int .i64 0]) (by simp[results,Tryz.results157,go_sem]) rfl ?_
     rw[HQ.out]
     exact⟨⟨_,rfl,HRw.out⟩,HB2.out⟩
theorem pushS_is (s:Stk)(l:List Int):pushS s l=made s (pe l) ⟨s.vals ++ l,s.cs⟩:=by
 unfold pushS made pe
 split
 ·rfl
 ·cases l.any noT <;> rfl
theorem wantS_is (s:Stk)(l:List Int):wantS s l=made s (we (wantV s.cs.getLast? s.vals l.reverse)) ⟨(wantV s.cs.getLast? s.vals l.reverse).getD [],s.cs⟩:=by
 unfold wantS made
 split
 ·rfl
 ·cases wantV s.cs.getLast? s.vals l.reverse <;> rfl
theorem openS_is (s:Stk)(op:Int)(l:List Int):openS s op l=made s (oe l) ⟨s.vals,s.cs ++ [⟨op,l,s.vals.length,false⟩]⟩:=by
 unfold openS made oe
 split
 ·rfl
 ·cases mayE l <;> rfl
theorem killS_is (s:Stk):killS s=made s (ke s.cs) ⟨s.vals.take (kh s.cs),s.cs.dropLast ++ kd s.cs⟩:=by
 unfold killS made ke kh kd
 split
 ·rfl
 ·cases s.cs.getLast? <;> rfl
structure Act9 where
 what:Int
 op:Int
 L:List Int
def act (s:Stk)(a:Act9):Stk×Int:=
 if a.what=0\/a.what=1 then pushS s a.L else if a.what=2 then ((popS s).1,(popS s).2.2) else if a.what=3\/a.what=4 then wantS s a.L else if a.what=5 then openS s a.op a.L else if a.what=6 then ((zaM s).1,(zaM s).2.2) else if a.what=7 then killS s else (s,1)
theorem popV_le {o:Option Ctl}{vals vs:List Int}{v:Int}(h:popV o vals=some (vs,v)):vs.length<=vals.length:=popV_len h
theorem wantV_le:∀ (r:List Int){o:Option Ctl}{vals vs:List Int},wantV o vals r=some vs->vs.length<=vals.length
 | [],o,vals,vs,h=>by
  obtain rfl:vals=vs:=Option.some.inj h
  exact Nat.le_refl _
 | x :: r,o,vals,vs,h=>by
  rw[wantV] at h
  split at h
  ·cases h
  ·rename_i vs1 v hp
   split at h
   ·have:=wantV_le r h
    have:=popV_len hp
    omega
   ·cases h
theorem made_le {s s':Stk}{e0:Int}{n m:Nat}(hv:s'.vals.length<=n)(hc:s'.cs.length<=m):(made s e0 s').1.vals.length<=n/\(made s e0 s').1.cs.length<=m:=by
 unfold made
 split
 ·exact ⟨Nat.zero_le _,Nat.zero_le _⟩
 ·split
  ·exact ⟨hv,hc⟩
  ·exact ⟨Nat.zero_le _,Nat.zero_le _⟩
theorem act_le (s:Stk)(a:Act9):(act s a).1.vals.length<=s.vals.length+a.L.length/\(act s a).1.cs.length<=s.cs.length+1:=by
 unfold act
 split
 ·rw[pushS_is]
  exact made_le (by simp) (by simp)
 ·split
  ·rw[popS_is]
   unfold popMade
   split
   ·exact ⟨Nat.zero_le _,Nat.zero_le _⟩
   ·cases h:popV s.cs.getLast? s.vals with
    | none=>exact ⟨Nat.zero_le _,Nat.zero_le _⟩
    | some p=>
     obtain⟨vs,v⟩:=p
     have:=popV_len h
     exact⟨by show vs.length<=_;omega,by show s.cs.length<=_;omega⟩
  ·split
   ·rw[wantS_is]
    refine made_le ?_ (by simp)
    cases h:wantV s.cs.getLast? s.vals a.L.reverse with
    | none=>simp
    | some vs=>have:=wantV_le _ h;show vs.length<=_;omega
   ·split
    ·rw[openS_is]
     exact made_le (by simp) (by simp)
    ·split
     ·rw[closeS_is]
      unfold closeMade
      split
      ·exact ⟨Nat.zero_le _,Nat.zero_le _⟩
      ·cases h:closeV s.vals s.cs with
       | none=>exact ⟨Nat.zero_le _,Nat.zero_le _⟩
       | some p=>
        obtain⟨vs,c⟩:=p
        have hl:vs.length<=s.vals.length:=by
         unfold closeV at h
         split at h
         ·cases h
         ·split at h
          ·cases h
          ·rename_i hw
           split at h
           ·cases h
           ·simp only[Option.some.injEq,Prod.mk.injEq] at h
            have:=wantV_le _ hw
            rw[<- h.1]
            exact this
        exact⟨by show vs.length<=_;omega,by show s.cs.dropLast.length<=_;rw[List.length_dropLast];omega⟩
     ·split
      ·rw[killS_is]
       refine made_le (by rw[List.length_take];omega) ?_
       rw[List.length_append,List.length_dropLast]
       unfold kd
       cases h:s.cs.getLast? with
       | none=>show s.cs.length - 1+0<=_;omega
       | some c=>show s.cs.length - 1+1<=_;omega
      ·exact ⟨by show s.vals.length<=_;omega,by show s.cs.length<=_;omega⟩
end Go.Proofs.YtlappkflnlbfcaaGreatDoor.Stk
end
