/- StkPush, StkPopC. -/
import Derived.Test.YtlappkflnlbfcaaGreatDoorPkStkChg
section
namespace Go.Proofs.YtlappkflnlbfcaaGreatDoor.Stk
open Lib (hid)
open Go.RowKit Row9
set_option maxRecDepth 100000
set_option maxHeartbeats 2000000
set_option linter.unusedVariables false
def pe (xs:List Int):Int:=chosen (xs.any noT) 1 0
def oe (xs:List Int):Int:=chosen (mayE xs) 0 1
theorem below2 (w:World)(a b:Obj):Below w.heap.size w ((w.alloc a).alloc b):=(zaB w a).alloc (zaB w a).size b
theorem below3 (w:World)(a b c:Obj):Below w.heap.size w (((w.alloc a).alloc b).alloc c):=(below2 w a b).alloc (below2 w a b).size c
theorem below4 (w:World)(a b c d:Obj):Below w.heap.size w ((((w.alloc a).alloc b).alloc c).alloc d):=(below3 w a b c).alloc (below3 w a b c).size d
theorem mkf (fn:Fn)(first cap:Array Value)(w:World):(Instr.makeFunc fn first cap).run Tryz.prog w= .ok (.func fn first cap) w:=rfl
def OpTold (r:Stk×Int)(w:World)(e:Ending)(w':World):Prop:=(∃v,e= .returned (.tuple #[v,.int .i64 r.2])/\StIs elP w' v r.1)/\Below w.heap.size w w'
theorem zS_is (w:World):StIs elP w zS none_:=StIs.none_ elP w
def made (s:Stk)(e0:Int)(s':Stk):Stk×Int:=if sane s=false then (none_,1) else if e0=0 then (s',0) else (none_,e0)
theorem ChTold.op {s s':Stk}{e0:Int}{K:World->Prop}{w w':World}{e:Ending}(h:ChTold none s e0 s' K w e w'):OpTold (made s e0 s') w e w':=by
 unfold made
 rcases h with ⟨h1,h2,h3⟩ | ⟨h1,h2,h3,h4,h5⟩ | ⟨h1,h2,v,h3,h4,h5,h6⟩
 ·rw[if_pos h1]
  exact⟨⟨_,h2,zS_is _⟩,h3⟩
 ·rw[if_neg (by rw[h1];decide),if_neg h2]
  exact⟨⟨_,h3,zS_is _⟩,h5.below⟩
 ·subst h2
  rw[if_neg (by rw[h1];decide),if_pos rfl]
  exact⟨⟨v,h3,h4⟩,h6.below⟩
theorem pushed1 {B D p:Nat}{vv cv x:Value}{vals xs:List Int}{l:List CtV}{W:World}(h:Dr W B D vv cv vals l)(hx:Row elB W x xs)(hl:vals.length+xs.length<=1000000)(hc:W.cell? ⟨p,0,none⟩=some x):
  Calls Tryz.prog 167 #[.pointer (some ⟨D,0,none⟩),.pointer (some ⟨p,0,none⟩)] W fun e W'=>e= .returned (.int .i64 (pe xs))/\True/\(pe xs=0->Left W' D ⟨vals ++ xs,l.map (·.1)⟩)/\BO B none W W':=by
 have HP:=hid (show Calls Tryz.prog 168 #[.pointer (some ⟨D,0,none⟩),x] W (fun e w'=>MadeTold D (pe xs) ⟨vals ++ xs,l.map (·.1)⟩ e w'/\Below B W w') from push_any h hx hl (Nat.le_trans h.hD (Nat.le_of_lt h.lt)))
 obtain⟨P,c,rfl,_⟩:=hx.form
 obtain⟨n,hn⟩:∃n,xs.length=n:=⟨_,rfl⟩
 rw[hn] at hc HP
 generalize pe xs=e0 at *
 clear h hx hl hn
 go_enter Tryz.func167,Tryz.ntmps167
 go_wp2_with fail
 refine HP.out.mono ?_
 rintro e w1 ⟨⟨rfl,hL⟩,hb⟩
 have HL:=hid hL
 have HB:=hid hb
 clear hL hb
 go_wp2_with fail
 exact bodyPost_ret (v:=.int .i64 e0) (by simp[results,Tryz.results167,go_sem]) rfl ⟨rfl,trivial,HL.out,BO.of_below HB.out⟩
def we (o:Option (List Int)):Int:=match o with
 | none=>5
 | some _=>0
theorem wanted1 {B D p:Nat}{vv cv x:Value}{vals xs:List Int}{l:List CtV}{W:World}(h:Dr W B D vv cv vals l)(hx:∀W',But D W W'->Row elB W' x xs)(hl:vals.length<=1000000)(hxl:xs.length<=1000000)(hc:W.cell? ⟨p,0,none⟩=some x):
  Calls Tryz.prog 169 #[.pointer (some ⟨D,0,none⟩),.pointer (some ⟨p,0,none⟩)] W fun e W'=>e= .returned (.int .i64 (we (wantV (l.map (·.1)).getLast? vals xs.reverse)))/\True/\(we (wantV (l.map (·.1)).getLast? vals xs.reverse)=0->Left W' D ⟨(wantV (l.map (·.1)).getLast? vals xs.reverse).getD [],l.map (·.1)⟩)/\BO B none W W':=by
 have HP:=hid (want_any h hl hx hxl)
 have HD:=hid h.hD
 have HLt:=hid h.lt
 obtain⟨P,c,rfl,_⟩:=(hx W (But.refl _ _)).form
 obtain⟨n,hn⟩:∃n,xs.length=n:=⟨_,rfl⟩
 rw[hn] at hc HP
 generalize wantV (l.map (·.1)).getLast? vals xs.reverse=o at *
 clear h hx hl hxl hn
 go_enter Tryz.func169,Tryz.ntmps169
 go_wp2_with fail
 refine HP.out.mono ?_
 rintro e w1 hw
 cases o with
 | none=>
  obtain⟨rfl,hb⟩:=hw
  have HB:=hid (hb.below HD.out HLt.out)
  clear hb
  go_wp2_with fail
  exact bodyPost_ret (v:=.int .i64 5) (by simp[results,Tryz.results169,go_sem]) rfl ⟨rfl,trivial,(fun h=>absurd h (by decide)),BO.of_below HB.out⟩
 | some vs=>
  obtain⟨vv1,rfl,hd,hb⟩:=hw
  have HB:=hid (hb.below HD.out HLt.out)
  have HL:=hid hd.left
  clear hb hd
  go_wp2_with fail
  exact bodyPost_ret (v:=.int .i64 0) (by simp[results,Tryz.results169,go_sem]) rfl ⟨rfl,trivial,(fun _=>HL.out),BO.of_below HB.out⟩
theorem opened1 {B D p q:Nat}{vv cv x:Value}{op:Int}{vals xs:List Int}{l:List CtV}{W:World}(h:Dr W B D vv cv vals l)(hx:Row elB W x xs)(hop:w64 op)(hl:vals.length<=1000000)(hll:l.length+1<=1000000)(hxl:xs.length<=1000000)(hc:W.cell? ⟨p,0,none⟩=some (.int .i64 op))(hc2:W.cell? ⟨q,0,none⟩=some x):
  Calls Tryz.prog 143 #[.pointer (some ⟨D,0,none⟩),.pointer (some ⟨p,0,none⟩),.pointer (some ⟨q,0,none⟩)] W fun e W'=>e= .returned (.int .i64 (oe xs))/\True/\(oe xs=0->Left W' D ⟨vals,l.map (·.1) ++ [⟨op,xs,vals.length,false⟩]⟩)/\BO B none W W':=by
 have HP:=hid (show Calls Tryz.prog 144 #[.pointer (some ⟨D,0,none⟩),.int .i64 op,x] W (fun e w'=>MadeTold D (oe xs) ⟨vals,l.map (·.1) ++ [⟨op,xs,vals.length,false⟩]⟩ e w'/\Below B W w') from open_any h hx hop hl hll hxl (Nat.le_trans h.hD (Nat.le_of_lt h.lt)))
 obtain⟨P,c,rfl,_⟩:=hx.form
 obtain⟨n,hn⟩:∃n,xs.length=n:=⟨_,rfl⟩
 rw[hn] at hc2 HP
 generalize oe xs=e0 at *
 clear h hx hl hll hxl hn hop
 go_enter Tryz.func143,Tryz.ntmps143
 go_wp2_with fail
 refine HP.out.mono ?_
 rintro e w1 ⟨⟨rfl,hL⟩,hb⟩
 have HL:=hid hL
 have HB:=hid hb
 clear hL hb
 go_wp2_with fail
 exact bodyPost_ret (v:=.int .i64 e0) (by simp[results,Tryz.results143,go_sem]) rfl ⟨rfl,trivial,HL.out,BO.of_below HB.out⟩
def ke (cs:List Ctl):Int:=match cs.getLast? with
 | none=>5
 | some _=>0
def kh (cs:List Ctl):Nat:=match cs.getLast? with
 | none=>0
 | some c=>c.ht.toNat
def kd (cs:List Ctl):List Ctl:=match cs.getLast? with
 | none=>[]
 | some c=>[{ c with dead:=true }]
theorem killed1 {B D:Nat}{vv cv:Value}{vals:List Int}{l:List CtV}{W:World}(h:Dr W B D vv cv vals l)(hs:sane ⟨vals,l.map (·.1)⟩=true):
  Calls Tryz.prog 166 (#[.pointer (some ⟨D,0,none⟩)] ++ #[]) W fun e W'=>e= .returned (.int .i64 (ke (l.map (·.1))))/\True/\(ke (l.map (·.1))=0->Left W' D ⟨vals.take (kh (l.map (·.1))),(l.map (·.1)).dropLast ++ kd (l.map (·.1))⟩)/\BO B none W W':=by
 cases hp:l.getLast? with
 | none=>
  have h0:l = []:=List.getLast?_eq_none_iff.1 hp
  subst h0
  exact(kill_none h ⟨[],[]⟩).mono fun e w' ⟨⟨h1,_⟩,h3⟩=>⟨h1,trivial,(fun h=>absurd h (by decide)),BO.of_below h3⟩
 | some p=>
  obtain⟨q,rfl⟩:∃q,l=q ++ [p]:=List.getLast?_eq_some_iff.1 hp
  have hf:=(sane_facts hs).1 p.1 (by simp)
  obtain⟨k,hk⟩:∃k:Nat,p.1.ht=(k:Int):=⟨p.1.ht.toNat,by omega⟩
  have e1:((q ++ [p]).map (·.1)).getLast? = some p.1:=by simp
  have e2:((q ++ [p]).map (·.1)).dropLast=q.map (·.1):=by simp
  unfold ke kh kd
  rw[e1,e2]
  have e3:p.1.ht.toNat=k:=by omega
  simp only[e3]
  exact(kill_some h hk (by have:=hf.2.1;simp only at this;omega) (Nat.le_trans h.hD (Nat.le_of_lt h.lt))).mono fun e w' ⟨⟨h1,h2⟩,h3⟩=>⟨h1,trivial,(fun _=>h2 rfl),BO.of_below h3⟩
theorem StIs.store2 {w:World}{r:Nat}{v:Value}{s:Stk}(h:StIs elP w v s)(hz:w.heap[r]? = some (.cells #[.slice none 0 0,.slice none 0 0] 39 (0,0))):
  ∃P n c Q m d,v= .agg #[.slice P n c,.slice Q m d]/\StIs elP ((w.setCell ⟨r,0,none⟩ (.slice P n c)).setCell ⟨r,1,none⟩ (.slice Q m d)) (.agg #[.slice P n c,.slice Q m d]) s:=by
 obtain⟨a,c,l,rfl,ha,hc,hl⟩:=h
 obtain⟨P,k,rfl,_⟩:=ha.form
 obtain⟨Q,d,rfl,_⟩:=hc.form
 refine⟨_,_,_,_,_,_,rfl,_,_,l,rfl,row_besideB ha (noint2 hz) (chg2 w r _ _) (by rw[zaJ,zaJ];exact Nat.le_refl _),row_besideC hc (noint2 hz) (chg2 w r _ _) (by rw[zaJ,zaJ];exact Nat.le_refl _),hl⟩
theorem Push_any {a c:Value}{vals:List Int}{l:List CtV}{w:World}{x:Value}{xs:List Int}(ha:Row elB w a vals)(hc:Row elP w c l)(hx:Row elB w x xs)(hxl:xs.length<=400000)(hvl:vals.length<=400000)(hll:l.length<=400000):
  Calls Tryz.prog 150 #[.agg #[a,c],x] w (OpTold (made ⟨vals,l.map (·.1)⟩ (pe xs) (⟨vals ++ xs,l.map (·.1)⟩)) w):=by
 have hmf:=mkf
 have HA:=hid ha
 have HC:=hid hc
 have HL:=hid hvl
 have HLL:=hid hll
 obtain⟨Pa,ca,rfl,y1,y2⟩:=ha.form
 obtain⟨Pc,cc_,rfl,y3,y4⟩:=hc.form
 have HX:=hid hx
 have HXL:=hid hxl
 obtain⟨Px,cx,rfl,y5,y6⟩:=hx.form
 obtain⟨nx,hnx⟩:∃n,xs.length=n:=⟨_,rfl⟩
 have HNX:=hid hnx
 rw[hnx] at HX ⊢
 obtain⟨nv,hnv⟩:∃n,vals.length=n:=⟨_,rfl⟩
 obtain⟨nl,hnl⟩:∃n,l.length=n:=⟨_,rfl⟩
 have HNV:=hid hnv
 have HNL:=hid hnl
 obtain⟨s,hs⟩:∃s:Stk,(⟨vals,l.map (·.1)⟩:Stk)=s:=⟨_,rfl⟩
 obtain⟨s',hs'⟩:∃s:Stk,(⟨vals ++ xs,l.map (·.1)⟩)=s:=⟨_,rfl⟩
 obtain⟨e0,he0⟩:∃e0:Int,(pe xs)=e0:=⟨_,rfl⟩
 rw[hs,hs',he0]
 obtain⟨⟨ms,ee⟩,hmm⟩:∃mm,made s e0 s'=mm:=⟨_,rfl⟩
 rw[hmm]
 have HMM:=hid hmm
 rw[hnv] at HA ⊢
 rw[hnl] at HC ⊢
 have HS:=hid hs
 have HS':=hid hs'
 have HE:=hid he0
 have HB3:=hid (below3 w (.cells #[.slice Pa nv ca,.slice Pc nl cc_] 39) (.cells #[.slice Px nx cx] 25) (.cells #[.slice none 0 0,.slice none 0 0] 39))
 have HT:Hid ((((w.alloc (.cells #[.slice Pa nv ca,.slice Pc nl cc_] 39)).alloc (.cells #[.slice Px nx cx] 25)).alloc (.cells #[.slice none 0 0,.slice none 0 0] 39)).cell? ⟨w.heap.size+1,0,none⟩=some (.slice Px nx cx)):=by
  show _=_
  rw[(zaB ((w.alloc (.cells #[.slice Pa nv ca,.slice Pc nl cc_] 39)).alloc (.cells #[.slice Px nx cx] 25)) _).cell (p:=⟨w.heap.size+1,0,none⟩) (by simp only[zaD];omega)]
  have h:=(zaA (zaC (w.alloc (.cells #[.slice Pa nv ca,.slice Pc nl cc_] 39)) (.cells #[.slice Px nx cx] 25)) 0).1
  rw[zaD] at h
  exact h
 have HZ:=hid (zaC (((w.alloc (.cells #[.slice Pa nv ca,.slice Pc nl cc_] 39)).alloc (.cells #[.slice Px nx cx] 25))) (.cells #[.slice none 0 0,.slice none 0 0] 39))
 simp only[zaD] at HZ
 clear y1 y2 y3 y4 ha hc hvl hll hs hs' hmm hnv hnl he0 hx hxl hnx y5 y6
 go_enter Tryz.func150,Tryz.ntmps150
 go_wp2_with fail
 generalize ((w.alloc (.cells #[.slice Pa nv ca,.slice Pc nl cc_] 39)).alloc (.cells #[.slice Px nx cx] 25)).alloc (.cells #[.slice none 0 0,.slice none 0 0] 39)=w3 at *
 obtain⟨r,hr⟩:∃r,w.heap.size+1+1=r:=⟨_,rfl⟩
 have HR:Hid (w.heap.size<=r):=by show _<=_;omega
 rw[hr] at HZ
 simp only[hr]
 clear hr
 have HCh:Hid (Calls Tryz.prog 83 #[.agg #[.slice Pa nv ca,.slice Pc nl cc_],.func (.func 167) #[] #[.pointer (some ⟨w.heap.size+1,0,none⟩)]] w3 (OpTold (made s e0 s') w3)):=by
  show Calls _ _ _ _ _
  have h0:=changed_any (b:=none) (e0:=e0) (s':=s') (K:=fun _=>True) (caps:=#[.pointer (some ⟨w.heap.size+1,0,none⟩)]) (HA.out.keep HB3.out) (HC.out.keep HB3.out) (by have:=HL.out;omega) (by have:=HLL.out;omega) (k:=167) ⟨_,Tryz.func167,by kernel_rfl,by kernel_rfl⟩ (fun _ _ _ _ _ _ _ _=>trivial) (fun hsn W B D vv cv l' hB hW hd hl'=>by
   have hx2:=HX.out.keep (HB3.out.trans (hW.mono HB3.out.size))
   have hc2:=(hW.cell (p:=⟨w.heap.size+1,0,none⟩) (World.block_lt_of_cell? w3 _ HT.out)).trans HT.out
   rw[<- HE.out,<- HS'.out,<- hl']
   exact pushed1 hd hx2 (by have:=HL.out;have:=HXL.out;omega) hc2) (fun _ _ h=>by cases h)
  rw[HS.out] at h0
  exact h0.mono fun _ _ h=>h.op
 rw[HMM.out] at HCh
 refine HCh.out.mono ?_
 rintro e w4 ⟨⟨v,rfl,hv⟩,hb4⟩
 have hz4:=(hb4.block r (lt_of_heap HZ.out)).trans HZ.out
 have HB4:=hid (HB3.out.trans (hb4.mono HB3.out.size))
 obtain⟨P1,n1,c1,P2,n2,c2,rfl,hv2⟩:=hv.store2 hz4
 have HV:=hid hv2
 obtain⟨q0,p0⟩:=zaA hz4 0
 obtain⟨q1,p1⟩:=zaA hz4 1
 simp only[List.getElem?_toArray,List.getElem?_cons_zero,List.getElem?_cons_succ] at q0 q1
 clear hz4 hb4 hv hv2 HCh
 go_wp2_with fail
 refine bodyPost_ret (v:=.tuple #[.agg #[.slice P1 n1 c1,.slice P2 n2 c2],.int .i64 ee]) (by simp[results,Tryz.results150,go_sem,q0,q1]) rfl ⟨⟨_,rfl,HV.out⟩,?_⟩
 exact(HB4.out.setCell (p:=⟨r,0,none⟩) HR.out _).setCell (p:=⟨r,1,none⟩) HR.out _
theorem Want_any {a c:Value}{vals:List Int}{l:List CtV}{w:World}{x:Value}{xs:List Int}(ha:Row elB w a vals)(hc:Row elP w c l)(hx:Row elB w x xs)(hxl:xs.length<=400000)(hvl:vals.length<=400000)(hll:l.length<=400000):
  Calls Tryz.prog 152 #[.agg #[a,c],x] w (OpTold (made ⟨vals,l.map (·.1)⟩ (we (wantV (l.map (·.1)).getLast? vals xs.reverse)) (⟨(wantV (l.map (·.1)).getLast? vals xs.reverse).getD [],l.map (·.1)⟩)) w):=by
 have hmf:=mkf
 have HA:=hid ha
 have HC:=hid hc
 have HL:=hid hvl
 have HLL:=hid hll
 obtain⟨Pa,ca,rfl,y1,y2⟩:=ha.form
 obtain⟨Pc,cc_,rfl,y3,y4⟩:=hc.form
 have HX:=hid hx
 have HXL:=hid hxl
 obtain⟨Px,cx,rfl,y5,y6⟩:=hx.form
 obtain⟨nx,hnx⟩:∃n,xs.length=n:=⟨_,rfl⟩
 have HNX:=hid hnx
 rw[hnx] at HX ⊢
 obtain⟨nv,hnv⟩:∃n,vals.length=n:=⟨_,rfl⟩
 obtain⟨nl,hnl⟩:∃n,l.length=n:=⟨_,rfl⟩
 have HNV:=hid hnv
 have HNL:=hid hnl
 obtain⟨s,hs⟩:∃s:Stk,(⟨vals,l.map (·.1)⟩:Stk)=s:=⟨_,rfl⟩
 obtain⟨s',hs'⟩:∃s:Stk,(⟨(wantV (l.map (·.1)).getLast? vals xs.reverse).getD [],l.map (·.1)⟩)=s:=⟨_,rfl⟩
 obtain⟨e0,he0⟩:∃e0:Int,(we (wantV (l.map (·.1)).getLast? vals xs.reverse))=e0:=⟨_,rfl⟩
 rw[hs,hs',he0]
 obtain⟨⟨ms,ee⟩,hmm⟩:∃mm,made s e0 s'=mm:=⟨_,rfl⟩
 rw[hmm]
 have HMM:=hid hmm
 rw[hnv] at HA ⊢
 rw[hnl] at HC ⊢
 have HS:=hid hs
 have HS':=hid hs'
 have HE:=hid he0
 have HB3:=hid (below3 w (.cells #[.slice Pa nv ca,.slice Pc nl cc_] 39) (.cells #[.slice Px nx cx] 25) (.cells #[.slice none 0 0,.slice none 0 0] 39))
 have HT:Hid ((((w.alloc (.cells #[.slice Pa nv ca,.slice Pc nl cc_] 39)).alloc (.cells #[.slice Px nx cx] 25)).alloc (.cells #[.slice none 0 0,.slice none 0 0] 39)).cell? ⟨w.heap.size+1,0,none⟩=some (.slice Px nx cx)):=by
  show _=_
  rw[(zaB ((w.alloc (.cells #[.slice Pa nv ca,.slice Pc nl cc_] 39)).alloc (.cells #[.slice Px nx cx] 25)) _).cell (p:=⟨w.heap.size+1,0,none⟩) (by simp only[zaD];omega)]
  have h:=(zaA (zaC (w.alloc (.cells #[.slice Pa nv ca,.slice Pc nl cc_] 39)) (.cells #[.slice Px nx cx] 25)) 0).1
  rw[zaD] at h
  exact h
 have HZ:=hid (zaC (((w.alloc (.cells #[.slice Pa nv ca,.slice Pc nl cc_] 39)).alloc (.cells #[.slice Px nx cx] 25))) (.cells #[.slice none 0 0,.slice none 0 0] 39))
 simp only[zaD] at HZ
 clear y1 y2 y3 y4 ha hc hvl hll hs hs' hmm hnv hnl he0 hx hxl hnx y5 y6
 go_enter Tryz.func152,Tryz.ntmps152
 go_wp2_with fail
 generalize ((w.alloc (.cells #[.slice Pa nv ca,.slice Pc nl cc_] 39)).alloc (.cells #[.slice Px nx cx] 25)).alloc (.cells #[.slice none 0 0,.slice none 0 0] 39)=w3 at *
 obtain⟨r,hr⟩:∃r,w.heap.size+1+1=r:=⟨_,rfl⟩
 have HR:Hid (w.heap.size<=r):=by show _<=_;omega
 rw[hr] at HZ
 simp only[hr]
 clear hr
 have HCh:Hid (Calls Tryz.prog 83 #[.agg #[.slice Pa nv ca,.slice Pc nl cc_],.func (.func 169) #[] #[.pointer (some ⟨w.heap.size+1,0,none⟩)]] w3 (OpTold (made s e0 s') w3)):=by
  show Calls _ _ _ _ _
  have h0:=changed_any (b:=none) (e0:=e0) (s':=s') (K:=fun _=>True) (caps:=#[.pointer (some ⟨w.heap.size+1,0,none⟩)]) (HA.out.keep HB3.out) (HC.out.keep HB3.out) (by have:=HL.out;omega) (by have:=HLL.out;omega) (k:=169) ⟨_,Tryz.func169,by kernel_rfl,by kernel_rfl⟩ (fun _ _ _ _ _ _ _ _=>trivial) (fun hsn W B D vv cv l' hB hW hd hl'=>by
   have hx2:∀W',But D W W'->Row elB W' (.slice Px nx cx) xs:=fun W' h'=>HX.out.keep (HB3.out.trans ((hW.trans (h'.below (Nat.le_trans hB hd.hD) hd.lt)).mono HB3.out.size))
   have hc2:=(hW.cell (p:=⟨w.heap.size+1,0,none⟩) (World.block_lt_of_cell? w3 _ HT.out)).trans HT.out
   rw[<- HE.out,<- HS'.out,<- hl']
   exact wanted1 hd hx2 (by have:=HL.out;omega) (by have:=HXL.out;omega) hc2) (fun _ _ h=>by cases h)
  rw[HS.out] at h0
  exact h0.mono fun _ _ h=>h.op
 rw[HMM.out] at HCh
 refine HCh.out.mono ?_
 rintro e w4 ⟨⟨v,rfl,hv⟩,hb4⟩
 have hz4:=(hb4.block r (lt_of_heap HZ.out)).trans HZ.out
 have HB4:=hid (HB3.out.trans (hb4.mono HB3.out.size))
 obtain⟨P1,n1,c1,P2,n2,c2,rfl,hv2⟩:=hv.store2 hz4
 have HV:=hid hv2
 obtain⟨q0,p0⟩:=zaA hz4 0
 obtain⟨q1,p1⟩:=zaA hz4 1
 simp only[List.getElem?_toArray,List.getElem?_cons_zero,List.getElem?_cons_succ] at q0 q1
 clear hz4 hb4 hv hv2 HCh
 go_wp2_with fail
 refine bodyPost_ret (v:=.tuple #[.agg #[.slice P1 n1 c1,.slice P2 n2 c2],.int .i64 ee]) (by simp[results,Tryz.results152,go_sem,q0,q1]) rfl ⟨⟨_,rfl,HV.out⟩,?_⟩
 exact(HB4.out.setCell (p:=⟨r,0,none⟩) HR.out _).setCell (p:=⟨r,1,none⟩) HR.out _
theorem Open_any {a c:Value}{vals:List Int}{l:List CtV}{w:World}{x:Value}{xs:List Int}{op:Int}(ha:Row elB w a vals)(hc:Row elP w c l)(hx:Row elB w x xs)(hxl:xs.length<=400000)(hop:w64 op)(hvl:vals.length<=400000)(hll:l.length<=400000):
  Calls Tryz.prog 111 #[.agg #[a,c],.int .i64 op,x] w (OpTold (made ⟨vals,l.map (·.1)⟩ (oe xs) (⟨vals,l.map (·.1) ++ [⟨op,xs,vals.length,false⟩]⟩)) w):=by
 have hmf:=mkf
 have HA:=hid ha
 have HC:=hid hc
 have HL:=hid hvl
 have HLL:=hid hll
 obtain⟨Pa,ca,rfl,y1,y2⟩:=ha.form
 obtain⟨Pc,cc_,rfl,y3,y4⟩:=hc.form
 have HX:=hid hx
 have HXL:=hid hxl
 have HOP:=hid hop
 obtain⟨Px,cx,rfl,y5,y6⟩:=hx.form
 obtain⟨nx,hnx⟩:∃n,xs.length=n:=⟨_,rfl⟩
 have HNX:=hid hnx
 rw[hnx] at HX ⊢
 obtain⟨nv,hnv⟩:∃n,vals.length=n:=⟨_,rfl⟩
 obtain⟨nl,hnl⟩:∃n,l.length=n:=⟨_,rfl⟩
 have HNV:=hid hnv
 have HNL:=hid hnl
 obtain⟨s,hs⟩:∃s:Stk,(⟨vals,l.map (·.1)⟩:Stk)=s:=⟨_,rfl⟩
 obtain⟨s',hs'⟩:∃s:Stk,(⟨vals,l.map (·.1) ++ [⟨op,xs,vals.length,false⟩]⟩)=s:=⟨_,rfl⟩
 obtain⟨e0,he0⟩:∃e0:Int,(oe xs)=e0:=⟨_,rfl⟩
 rw[hs,hs',he0]
 obtain⟨⟨ms,ee⟩,hmm⟩:∃mm,made s e0 s'=mm:=⟨_,rfl⟩
 rw[hmm]
 have HMM:=hid hmm
 rw[hnv] at HA ⊢
 rw[hnl] at HC ⊢
 have HS:=hid hs
 have HS':=hid hs'
 have HE:=hid he0
 have HB3:=hid (below4 w (.cells #[.slice Pa nv ca,.slice Pc nl cc_] 39) (.cells #[.int .i64 op] 3) (.cells #[.slice Px nx cx] 25) (.cells #[.slice none 0 0,.slice none 0 0] 39))
 have HT:Hid (((((w.alloc (.cells #[.slice Pa nv ca,.slice Pc nl cc_] 39)).alloc (.cells #[.int .i64 op] 3)).alloc (.cells #[.slice Px nx cx] 25)).alloc (.cells #[.slice none 0 0,.slice none 0 0] 39)).cell? ⟨w.heap.size+1,0,none⟩=some (.int .i64 op)/\((((w.alloc (.cells #[.slice Pa nv ca,.slice Pc nl cc_] 39)).alloc (.cells #[.int .i64 op] 3)).alloc (.cells #[.slice Px nx cx] 25)).alloc (.cells #[.slice none 0 0,.slice none 0 0] 39)).cell? ⟨w.heap.size+1+1,0,none⟩=some (.slice Px nx cx)):=by
  refine⟨?_,?_⟩
  ·rw[(below2 ((w.alloc (.cells #[.slice Pa nv ca,.slice Pc nl cc_] 39)).alloc (.cells #[.int .i64 op] 3)) _ _).cell (p:=⟨w.heap.size+1,0,none⟩) (by simp only[zaD];omega)]
   have h:=(zaA (zaC (w.alloc (.cells #[.slice Pa nv ca,.slice Pc nl cc_] 39)) (.cells #[.int .i64 op] 3)) 0).1
   rw[zaD] at h
   exact h
  ·rw[(zaB (((w.alloc (.cells #[.slice Pa nv ca,.slice Pc nl cc_] 39)).alloc (.cells #[.int .i64 op] 3)).alloc (.cells #[.slice Px nx cx] 25)) _).cell (p:=⟨w.heap.size+1+1,0,none⟩) (by simp only[zaD];omega)]
   have h:=(zaA (zaC ((w.alloc (.cells #[.slice Pa nv ca,.slice Pc nl cc_] 39)).alloc (.cells #[.int .i64 op] 3)) (.cells #[.slice Px nx cx] 25)) 0).1
   rw[zaD,zaD] at h
   exact h
 have HZ:=hid (zaC ((((w.alloc (.cells #[.slice Pa nv ca,.slice Pc nl cc_] 39)).alloc (.cells #[.int .i64 op] 3)).alloc (.cells #[.slice Px nx cx] 25))) (.cells #[.slice none 0 0,.slice none 0 0] 39))
 simp only[zaD] at HZ
 clear y1 y2 y3 y4 ha hc hvl hll hs hs' hmm hnv hnl he0 hx hxl hop hnx y5 y6
 go_enter Tryz.func111,Tryz.ntmps111
 go_wp2_with fail
 generalize (((w.alloc (.cells #[.slice Pa nv ca,.slice Pc nl cc_] 39)).alloc (.cells #[.int .i64 op] 3)).alloc (.cells #[.slice Px nx cx] 25)).alloc (.cells #[.slice none 0 0,.slice none 0 0] 39)=w3 at *
 obtain⟨r,hr⟩:∃r,w.heap.size+1+1+1=r:=⟨_,rfl⟩
 have HR:Hid (w.heap.size<=r):=by show _<=_;omega
 rw[hr] at HZ
 simp only[hr]
 clear hr
 have HCh:Hid (Calls Tryz.prog 83 #[.agg #[.slice Pa nv ca,.slice Pc nl cc_],.func (.func 143) #[] #[.pointer (some ⟨w.heap.size+1,0,none⟩),.pointer (some ⟨w.heap.size+1+1,0,none⟩)]] w3 (OpTold (made s e0 s') w3)):=by
  show Calls _ _ _ _ _
  have h0:=changed_any (b:=none) (e0:=e0) (s':=s') (K:=fun _=>True) (caps:=#[.pointer (some ⟨w.heap.size+1,0,none⟩),.pointer (some ⟨w.heap.size+1+1,0,none⟩)]) (HA.out.keep HB3.out) (HC.out.keep HB3.out) (by have:=HL.out;omega) (by have:=HLL.out;omega) (k:=143) ⟨_,Tryz.func143,by kernel_rfl,by kernel_rfl⟩ (fun _ _ _ _ _ _ _ _=>trivial) (fun hsn W B D vv cv l' hB hW hd hl'=>by
   have hx2:=HX.out.keep (HB3.out.trans (hW.mono HB3.out.size))
   have hc1:=(hW.cell (p:=⟨w.heap.size+1,0,none⟩) (World.block_lt_of_cell? w3 _ HT.out.1)).trans HT.out.1
   have hc2:=(hW.cell (p:=⟨w.heap.size+1+1,0,none⟩) (World.block_lt_of_cell? w3 _ HT.out.2)).trans HT.out.2
   have hll':l'.length=l.length:=by have:=congrArg List.length hl';simpa using this
   rw[<- HE.out,<- HS'.out,<- hl']
   exact opened1 hd hx2 HOP.out (by have:=HL.out;omega) (by have:=HLL.out;omega) (by have:=HXL.out;omega) hc1 hc2) (fun _ _ h=>by cases h)
  rw[HS.out] at h0
  exact h0.mono fun _ _ h=>h.op
 rw[HMM.out] at HCh
 refine HCh.out.mono ?_
 rintro e w4 ⟨⟨v,rfl,hv⟩,hb4⟩
 have hz4:=(hb4.block r (lt_of_heap HZ.out)).trans HZ.out
 have HB4:=hid (HB3.out.trans (hb4.mono HB3.out.size))
 obtain⟨P1,n1,c1,P2,n2,c2,rfl,hv2⟩:=hv.store2 hz4
 have HV:=hid hv2
 obtain⟨q0,p0⟩:=zaA hz4 0
 obtain⟨q1,p1⟩:=zaA hz4 1
 simp only[List.getElem?_toArray,List.getElem?_cons_zero,List.getElem?_cons_succ] at q0 q1
 clear hz4 hb4 hv hv2 HCh
 go_wp2_with fail
 refine bodyPost_ret (v:=.tuple #[.agg #[.slice P1 n1 c1,.slice P2 n2 c2],.int .i64 ee]) (by simp[results,Tryz.results111,go_sem,q0,q1]) rfl ⟨⟨_,rfl,HV.out⟩,?_⟩
 exact(HB4.out.setCell (p:=⟨r,0,none⟩) HR.out _).setCell (p:=⟨r,1,none⟩) HR.out _
theorem Kill_any {a c:Value}{vals:List Int}{l:List CtV}{w:World}(ha:Row elB w a vals)(hc:Row elP w c l)(hvl:vals.length<=400000)(hll:l.length<=400000):
  Calls Tryz.prog 149 #[.agg #[a,c]] w (OpTold (made ⟨vals,l.map (·.1)⟩ (ke (l.map (·.1))) (⟨vals.take (kh (l.map (·.1))),(l.map (·.1)).dropLast ++ kd (l.map (·.1))⟩)) w):=by
 have hmf:=mkf
 have HA:=hid ha
 have HC:=hid hc
 have HL:=hid hvl
 have HLL:=hid hll
 obtain⟨Pa,ca,rfl,y1,y2⟩:=ha.form
 obtain⟨Pc,cc_,rfl,y3,y4⟩:=hc.form
 obtain⟨nv,hnv⟩:∃n,vals.length=n:=⟨_,rfl⟩
 obtain⟨nl,hnl⟩:∃n,l.length=n:=⟨_,rfl⟩
 have HNV:=hid hnv
 have HNL:=hid hnl
 obtain⟨s,hs⟩:∃s:Stk,(⟨vals,l.map (·.1)⟩:Stk)=s:=⟨_,rfl⟩
 obtain⟨s',hs'⟩:∃s:Stk,(⟨vals.take (kh (l.map (·.1))),(l.map (·.1)).dropLast ++ kd (l.map (·.1))⟩)=s:=⟨_,rfl⟩
 obtain⟨e0,he0⟩:∃e0:Int,(ke (l.map (·.1)))=e0:=⟨_,rfl⟩
 rw[hs,hs',he0]
 obtain⟨⟨ms,ee⟩,hmm⟩:∃mm,made s e0 s'=mm:=⟨_,rfl⟩
 rw[hmm]
 have HMM:=hid hmm
 rw[hnv] at HA ⊢
 rw[hnl] at HC ⊢
 have HS:=hid hs
 have HS':=hid hs'
 have HE:=hid he0
 have HB3:=hid (below2 w (.cells #[.slice Pa nv ca,.slice Pc nl cc_] 39) (.cells #[.slice none 0 0,.slice none 0 0] 39))
 have HZ:=hid (zaC ((w.alloc (.cells #[.slice Pa nv ca,.slice Pc nl cc_] 39))) (.cells #[.slice none 0 0,.slice none 0 0] 39))
 simp only[zaD] at HZ
 clear y1 y2 y3 y4 ha hc hvl hll hs hs' hmm hnv hnl he0
 go_enter Tryz.func149,Tryz.ntmps149
 go_wp2_with fail
 generalize (w.alloc (.cells #[.slice Pa nv ca,.slice Pc nl cc_] 39)).alloc (.cells #[.slice none 0 0,.slice none 0 0] 39)=w3 at *
 obtain⟨r,hr⟩:∃r,w.heap.size+1=r:=⟨_,rfl⟩
 have HR:Hid (w.heap.size<=r):=by show _<=_;omega
 rw[hr] at HZ
 simp only[hr]
 clear hr
 have HCh:Hid (Calls Tryz.prog 83 #[.agg #[.slice Pa nv ca,.slice Pc nl cc_],.func (.func 166) #[] #[]] w3 (OpTold (made s e0 s') w3)):=by
  show Calls _ _ _ _ _
  have h0:=changed_any (b:=none) (e0:=e0) (s':=s') (K:=fun _=>True) (caps:=#[]) (HA.out.keep HB3.out) (HC.out.keep HB3.out) (by have:=HL.out;omega) (by have:=HLL.out;omega) (k:=166) ⟨_,Tryz.func166,by kernel_rfl,by kernel_rfl⟩ (fun _ _ _ _ _ _ _ _=>trivial) (fun hsn W B D vv cv l' hB hW hd hl'=>by
   rw[<- HE.out,<- HS'.out,<- hl']
   exact killed1 hd (by rw[hl'];exact hsn)) (fun _ _ h=>by cases h)
  rw[HS.out] at h0
  exact h0.mono fun _ _ h=>h.op
 rw[HMM.out] at HCh
 refine HCh.out.mono ?_
 rintro e w4 ⟨⟨v,rfl,hv⟩,hb4⟩
 have hz4:=(hb4.block r (lt_of_heap HZ.out)).trans HZ.out
 have HB4:=hid (HB3.out.trans (hb4.mono HB3.out.size))
 obtain⟨P1,n1,c1,P2,n2,c2,rfl,hv2⟩:=hv.store2 hz4
 have HV:=hid hv2
 obtain⟨q0,p0⟩:=zaA hz4 0
 obtain⟨q1,p1⟩:=zaA hz4 1
 simp only[List.getElem?_toArray,List.getElem?_cons_zero,List.getElem?_cons_succ] at q0 q1
 clear hz4 hb4 hv hv2 HCh
 go_wp2_with fail
 refine bodyPost_ret (v:=.tuple #[.agg #[.slice P1 n1 c1,.slice P2 n2 c2],.int .i64 ee]) (by simp[results,Tryz.results149,go_sem,q0,q1]) rfl ⟨⟨_,rfl,HV.out⟩,?_⟩
 exact(HB4.out.setCell (p:=⟨r,0,none⟩) HR.out _).setCell (p:=⟨r,1,none⟩) HR.out _
theorem Dr.high {w W:World}{B D:Nat}{vv cv:Value}{vals:List Int}{l:List CtV}(h:Dr w B D vv cv vals l)(hW:∀k,B<=k->k<w.heap.size->W.heap[k]? = w.heap[k]?):Dr W B D vv cv vals l:=
 ⟨h.hD,(hW D h.hD h.lt).trans h.blk,own_stay h.vO fun k hk=>hW k (World.ownsRow.lt h.vO k hk).1 (World.ownsRow.lt h.vO k hk).2,h.vR,own_stay h.cO fun k hk=>hW k (World.ownsRow.lt h.cO k hk).1 (World.ownsRow.lt h.cO k hk).2,fun p hp=>⟨own_stay (h.ok p hp).1 fun k hk=>hW k (World.ownsRow.lt (h.ok p hp).1 k hk).1 (World.ownsRow.lt (h.ok p hp).1 k hk).2,(h.ok p hp).2⟩⟩
theorem BO.set {B b i:Nat}{w w':World}(h:Below B w w')(u:Value):BO B (some b) w (w'.setCell ⟨b,i,none⟩ u):=
 ⟨h.os,h.tape,h.output,by rw[zaJ];exact h.size,fun k hk hne=>(Below.heap_setCell _ _ _ _ (by intro e;exact hne (congrArg some e))).trans (h.block k hk)⟩
def pvE (o:Option (List Int×Int)):Int:=match o with
 | none=>5
 | some _=>0
def pvV (o:Option (List Int×Int)):Int:=match o with
 | none=>0
 | some p=>p.2
def pvL (o:Option (List Int×Int)):List Int:=match o with
 | none=>[]
 | some p=>p.1
theorem popped1 {B D b:Nat}{vv cv:Value}{vals:List Int}{l:List CtV}{W:World}(h:Dr W B D vv cv vals l)(hl:vals.length<=1000000)(hb:b<B)(hz:W.heap[b]? = some (.cells #[.int .u8 0] 5 (0,0))):
  Calls Tryz.prog 170 #[.pointer (some ⟨D,0,none⟩),.pointer (some ⟨b,0,none⟩)] W fun e W'=>e= .returned (.int .i64 (pvE (popV (l.map (·.1)).getLast? vals)))/\W'.cell? ⟨b,0,none⟩=some (.int .u8 (pvV (popV (l.map (·.1)).getLast? vals)))/\(pvE (popV (l.map (·.1)).getLast? vals)=0->Left W' D ⟨pvL (popV (l.map (·.1)).getLast? vals),l.map (·.1)⟩)/\BO B (some b) W W':=by
 have HP:=hid (pop_any h hl)
 have HD:=hid h.hD
 have HLt:=hid h.lt
 have HZ:=hid hz
 have HB:=hid hb
 generalize popV (l.map (·.1)).getLast? vals=o at *
 clear h hl hz hb
 go_enter Tryz.func170,Tryz.ntmps170
 go_wp2_with fail
 refine HP.out.mono ?_
 rintro e w1 hw
 cases o with
 | none=>
  obtain⟨rfl,hbt⟩:=hw
  have HBe:=hid (hbt.below HD.out HLt.out)
  have hz1:=(HBe.out.block b HB.out).trans HZ.out
  obtain⟨q0,p0⟩:=zaA hz1 0
  simp only[List.getElem?_toArray,List.getElem?_cons_zero] at q0
  have HQ:=hid (zaA (zaE (i:=0) hz1 (.int .u8 0)) 0).1
  clear hz1 hbt
  go_wp2_with fail
  exact bodyPost_ret (v:=.int .i64 5) (by simp[results,Tryz.results170,go_sem]) rfl ⟨rfl,HQ.out,(fun h=>absurd h (by decide)),BO.set HBe.out _⟩
 | some pr=>
  obtain⟨vs,v⟩:=pr
  obtain⟨vv1,rfl,hd,hbt⟩:=hw
  have HBe:=hid (hbt.below HD.out HLt.out)
  have hz1:=(HBe.out.block b HB.out).trans HZ.out
  obtain⟨q0,p0⟩:=zaA hz1 0
  simp only[List.getElem?_toArray,List.getElem?_cons_zero] at q0
  have HQ:=hid (zaA (zaE (i:=0) hz1 (.int .u8 v)) 0).1
  have HL:=hid (hd.high (W:=w1.setCell ⟨b,0,none⟩ (.int .u8 v)) fun k hk _=>Below.heap_setCell _ _ _ _ (by have:=HB.out;show k≠b;omega)).left
  clear hz1 hbt hd
  go_wp2_with fail
  exact bodyPost_ret (v:=.int .i64 0) (by simp[results,Tryz.results170,go_sem]) rfl ⟨rfl,HQ.out,(fun _=>HL.out),BO.set HBe.out _⟩
def PopEnds (r:Stk×Int×Int)(w:World)(e:Ending)(w':World):Prop:=(∃v,e= .returned (.tuple #[v,.int .u8 r.2.1,.int .i64 r.2.2])/\StIs elP w' v r.1)/\Below w.heap.size w w'
def popMade (s:Stk)(o:Option (List Int×Int)):Stk×Int×Int:=if sane s=false then (none_,0,1) else match o with
 | none=>(none_,0,5)
 | some (vs,v)=>(⟨vs,s.cs⟩,v,0)
theorem popS_is (s:Stk):popS s=popMade s (popV s.cs.getLast? s.vals):=rfl
theorem Pop_any {a c:Value}{vals:List Int}{l:List CtV}{w:World}(ha:Row elB w a vals)(hc:Row elP w c l)(hvl:vals.length<=400000)(hll:l.length<=400000):
  Calls Tryz.prog 153 #[.agg #[a,c]] w (PopEnds (popS ⟨vals,l.map (·.1)⟩) w):=by
 have hmf:=mkf
 have HA:=hid ha
 have HC:=hid hc
 have HL:=hid hvl
 have HLL:=hid hll
 obtain⟨Pa,ca,rfl,y1,y2⟩:=ha.form
 obtain⟨Pc,cc_,rfl,y3,y4⟩:=hc.form
 obtain⟨nv,hnv⟩:∃n,vals.length=n:=⟨_,rfl⟩
 obtain⟨nl,hnl⟩:∃n,l.length=n:=⟨_,rfl⟩
 rw[popS_is]
 obtain⟨o,ho⟩:∃o,popV (l.map (·.1)).getLast? vals=o:=⟨_,rfl⟩
 have HO:=hid ho
 show Calls _ _ _ _ (PopEnds (popMade ⟨vals,l.map (·.1)⟩ (popV (l.map (·.1)).getLast? vals)) w)
 rw[ho]
 rw[hnv] at HA ⊢
 rw[hnl] at HC ⊢
 have HB3:=hid (below3 w (.cells #[.slice Pa nv ca,.slice Pc nl cc_] 39) (.cells #[.slice none 0 0,.slice none 0 0] 39) (.cells #[.int .u8 0] 5))
 have HZ:=hid (zaC (w.alloc (.cells #[.slice Pa nv ca,.slice Pc nl cc_] 39)) (.cells #[.slice none 0 0,.slice none 0 0] 39))
 have HZ':Hid ((((w.alloc (.cells #[.slice Pa nv ca,.slice Pc nl cc_] 39)).alloc (.cells #[.slice none 0 0,.slice none 0 0] 39)).alloc (.cells #[.int .u8 0] 5)).heap[w.heap.size+1]? = some (.cells #[.slice none 0 0,.slice none 0 0] 39 (0,0))):=by
  show _=_
  rw[(zaB ((w.alloc (.cells #[.slice Pa nv ca,.slice Pc nl cc_] 39)).alloc (.cells #[.slice none 0 0,.slice none 0 0] 39)) _).block (w.heap.size+1) (by simp only[zaD];omega)]
  have:=HZ.out
  rw[zaD] at this
  exact this
 have HX:=hid (zaC ((w.alloc (.cells #[.slice Pa nv ca,.slice Pc nl cc_] 39)).alloc (.cells #[.slice none 0 0,.slice none 0 0] 39)) (.cells #[.int .u8 0] 5))
 have HSz:Hid ((((w.alloc (.cells #[.slice Pa nv ca,.slice Pc nl cc_] 39)).alloc (.cells #[.slice none 0 0,.slice none 0 0] 39)).alloc (.cells #[.int .u8 0] 5)).heap.size=w.heap.size+1+1+1):=by
  show _=_
  rw[zaD,zaD,zaD]
 simp only[zaD] at HX
 clear HZ y1 y2 y3 y4 ha hc hvl hll hnv hnl ho
 go_enter Tryz.func153,Tryz.ntmps153
 go_wp2_with fail
 generalize ((w.alloc (.cells #[.slice Pa nv ca,.slice Pc nl cc_] 39)).alloc (.cells #[.slice none 0 0,.slice none 0 0] 39)).alloc (.cells #[.int .u8 0] 5)=w3 at *
 obtain⟨b,hb⟩:∃b,w.heap.size+1+1=b:=⟨_,rfl⟩
 obtain⟨r,hr⟩:∃r,w.heap.size+1=r:=⟨_,rfl⟩
 have HR:Hid (w.heap.size<=r/\w.heap.size<=b/\r<b/\b<w3.heap.size):=⟨by omega,by omega,by omega,by rw[HSz.out];omega⟩
 rw[hb] at HX
 rw[hr] at HZ'
 simp only[hb]
 simp only[hr]
 clear hr hb HSz
 have HCh:=hid (changed_any (b:=some b) (e0:=pvE o) (s':=⟨pvL o,l.map (·.1)⟩) (K:=fun W=>W.cell? ⟨b,0,none⟩=some (.int .u8 (pvV o))) (caps:=#[.pointer (some ⟨b,0,none⟩)]) (HA.out.keep HB3.out) (HC.out.keep HB3.out) (by have:=HL.out;omega) (by have:=HLL.out;omega) (k:=170) ⟨_,Tryz.func170,by kernel_rfl,by kernel_rfl⟩
  (fun W W' r' hK hr' _ hch _=>(World.cell?_of_block (a:=⟨b,0,none⟩) (hch b (World.block_lt_of_cell? W _ hK) (by have:=HR.out.2.2.2;intro e;have:=Option.some.inj e;omega))).trans hK)
  (fun hsn W B D vv cv l' hB hW hd hl'=>by
   have hz:=(hW.block b HR.out.2.2.2).trans HX.out
   rw[<- HO.out,<- hl']
   exact popped1 hd (by have:=HL.out;omega) (Nat.lt_of_lt_of_le HR.out.2.2.2 hB) hz) (fun x hx e=>by have:=HR.out.2.2.2;have:=Option.some.inj e;omega))
 refine HCh.out.mono ?_
 rintro e w4 hch
 have HU:∃v ms mv ee,popMade ⟨vals,l.map (·.1)⟩ o=(ms,mv,ee)/\e= .returned (.tuple #[v,.int .i64 ee])/\StIs elP w4 v ms/\w4.cell? ⟨b,0,none⟩=some (.int .u8 mv)/\BO w3.heap.size (some b) w3 w4:=by
  unfold popMade
  rcases hch with ⟨h1,h2,h3⟩ | ⟨h1,h2,h3,h4,h5⟩ | ⟨h1,h2,v,h3,h4,h5,h6⟩
  ·rw[if_pos h1]
   exact⟨_,_,_,_,rfl,h2,zS_is _,(h3.cell (p:=⟨b,0,none⟩) HR.out.2.2.2).trans (zaA HX.out 0).1,BO.of_below h3⟩
  ·rw[if_neg (by rw[h1];decide)]
   cases o with
   | none=>exact ⟨_,_,_,_,rfl,h3,zS_is _,h4,h5⟩
   | some p=>exact absurd rfl h2
  ·rw[if_neg (by rw[h1];decide)]
   cases o with
   | none=>exact absurd h2 (by decide)
   | some p=>exact ⟨_,_,_,_,rfl,h3,h4,h5,h6⟩
 obtain⟨v,ms,mv,ee,hu,rfl,hv,hmv,hbo⟩:=HU
 have HUU:=hid hu
 have hz4:=(hbo.block r (by have:=HR.out;omega) (by have:=HR.out;intro e;have:=Option.some.inj e;omega)).trans HZ'.out
 have HZ4:=hid hz4
 have HB4:Hid (Below w.heap.size w w4):=HB3.out.trans ⟨hbo.os,hbo.tape,hbo.output,hbo.size,fun k hk=>hbo.block k (Nat.lt_of_lt_of_le hk HB3.out.size) (by have:=HR.out;intro e;have:=Option.some.inj e;omega)⟩
 have HRl:=hid (lt_of_heap hz4)
 have HBl:=hid (World.block_lt_of_cell? w4 _ hmv)
 obtain⟨P1,n1,c1,P2,n2,c2,rfl,_⟩:=hv.store2 hz4
 have HV:=hid hv
 clear hz4 hv hbo hu hch HCh
 have HB5:=hid (zaB w4 (.cells #[.slice P1 n1 c1,.slice P2 n2 c2] 39))
 have HX5:=hid (zaC w4 (.cells #[.slice P1 n1 c1,.slice P2 n2 c2] 39))
 go_wp2_with fail
 generalize w4.alloc (.cells #[.slice P1 n1 c1,.slice P2 n2 c2] 39)=w7 at *
 obtain⟨x,hx⟩:∃x,w4.heap.size=x:=⟨_,rfl⟩
 have hmv7:=(HB5.out.cell (p:=⟨b,0,none⟩) HBl.out).trans hmv
 have hz7:=(HB5.out.block r HRl.out).trans HZ4.out
 have HZ7:=hid hz7
 have HV7:=hid (HV.out.keep HB5.out)
 have HBf:=hid (HB4.out.trans (HB5.out.mono HB4.out.size))
 rw[hx] at HX5
 simp only[hx]
 have x0:=(zaA HX5.out 0).1
 have x1:=(zaA HX5.out 1).1
 simp only[List.getElem?_toArray,List.getElem?_cons_zero,List.getElem?_cons_succ] at x0 x1
 obtain⟨q0,p0⟩:=zaA hz7 0
 obtain⟨q1,p1⟩:=zaA hz7 1
 simp only[List.getElem?_toArray,List.getElem?_cons_zero,List.getElem?_cons_succ] at q0 q1
 have hrb:b≠r:=by have:=HR.out;omega
 have hrb':r≠b:=by have:=HR.out;omega
 have hxr:x≠r:=by have:=HRl.out;omega
 clear hx hmv hz7
 go_region
 obtain⟨P1',n1',c1',P2',n2',c2',e9,hst⟩:=HV7.out.store2 HZ7.out
 simp only[Value.agg.injEq,Array.mk.injEq,List.cons.injEq,Value.slice.injEq,and_true] at e9
 obtain⟨⟨rfl,rfl,rfl⟩,rfl,rfl,rfl⟩:=e9
 have HST:=hid (hst.keep (zaI _))
 have HBl2:=hid (((HBf.out.setCell (p:=⟨r,0,none⟩) HR.out.1 (.slice P1 n1 c1)).setCell (p:=⟨r,1,none⟩) HR.out.1 (.slice P2 n2 c2)).drew)
 have y0:=(zaA (zaE (i:=1) (zaE (i:=0) HZ7.out (.slice P1 n1 c1)) (.slice P2 n2 c2)) 0).1
 have y1:=(zaA (zaE (i:=1) (zaE (i:=0) HZ7.out (.slice P1 n1 c1)) (.slice P2 n2 c2)) 1).1
 clear hst q0 q1 p0 p1
 generalize ((w7.setCell ⟨r,0,none⟩ (.slice P1 n1 c1)).setCell ⟨r,1,none⟩ (.slice P2 n2 c2))=w8 at *
 have y0:w8.drew.cell? ⟨r,0,none⟩=some (.slice P1 n1 c1):=y0
 have y1:w8.drew.cell? ⟨r,1,none⟩=some (.slice P2 n2 c2):=y1
 generalize w8.drew=w9 at *
 go_wp2_with fail
 refine bodyPost_ret (v:=.tuple #[.agg #[.slice P1 n1 c1,.slice P2 n2 c2],.int .u8 mv,.int .i64 ee]) (by simp[results,Tryz.results153,go_sem,y0,y1]) rfl ⟨⟨_,by rw[HUU.out],by rw[HUU.out];exact HST.out⟩,HBl2.out⟩
end Go.Proofs.YtlappkflnlbfcaaGreatDoor.Stk
end
