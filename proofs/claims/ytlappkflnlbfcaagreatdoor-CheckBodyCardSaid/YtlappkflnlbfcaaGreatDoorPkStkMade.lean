/- StkKill, StkClose, StkOpen, StkMade. -/
import Derived.Test.YtlappkflnlbfcaaGreatDoorPkStkWant
import Derived.Deep.RegionLaw
section
namespace Go.Proofs.YtlappkflnlbfcaaGreatDoor.Stk
open Lib (hid)
open Go.RowKit Row9
set_option maxRecDepth 100000
set_option maxHeartbeats 2000000
set_option linter.unusedVariables false
theorem zaI (w:World):Below w.heap.size w w.drew:=⟨rfl,rfl,rfl,Nat.le_refl _,fun _ _=>rfl⟩
theorem own_set {w:World}{B g e s n n0 c i:Nat}{xs:List Value}{v:Value}(h:w.ownsRow B e s (.slice (some ⟨g,0,none⟩) n0 c) n xs)(hi:i<n*s):(w.setCell ⟨g,i,none⟩ v).ownsRow B e s (.slice (some ⟨g,0,none⟩) n0 c) n (xs.set i v):=by
 obtain⟨h1,⟨h2,h3⟩ | ⟨g',cap,cur,hv,hB,hc,hle,hm,hsz,ht⟩⟩:=h
 ·cases h2
 ·have hg:g=g':=by
   injection hv with e1 _ _
   simpa using e1
  subst hg
  refine⟨by rw[List.length_set];exact h1,.inr ⟨g,cap,cur.setIfInBounds i v,hv,hB,heap_setCell_same w g i cur e v hc,hle,hm,by rw[Array.size_setIfInBounds];exact hsz,?_⟩⟩
  rw[Array.toList_setIfInBounds,List.take_set,ht]
def deadC (p:CtV):CtV:=({ p.1 with dead:=true },p.2)
theorem flat_dead (q:List CtV)(p:CtV):((q ++ [p]).flatMap elP.enc).set (q.length*4+3) (.bool true)=(q ++ [deadC p]).flatMap elP.enc:=by
 have hl:(q.flatMap elP.enc).length=q.length*4:=Row9.flat_len elP q
 rw[List.flatMap_append,List.flatMap_append,List.set_append_right _ _ (by omega),hl,show q.length*4+3 - q.length*4=3 from by omega]
 rfl
theorem own_dead {w:World}{B g n c m:Nat}{q:List CtV}{p:CtV}(h:Own elP w B (.slice (some ⟨g,0,none⟩) n c) (q ++ [p]))(hm:q.length=m):Own elP (w.setCell ⟨g,m*4+3,none⟩ (.bool true)) B (.slice (some ⟨g,0,none⟩) n c) (q ++ [deadC p]):=by
 subst hm
 have:=own_set (v:=.bool true) (i:=q.length*4+3) h (by rw[List.length_append,List.length_singleton];show _<(q.length+1)*4;omega)
 rw[flat_dead] at this
 have e:(q ++ [deadC p]).length=(q ++ [p]).length:=by rw[List.length_append,List.length_append];rfl
 unfold Row9.Own
 rw[e]
 exact this
theorem Dr.killed {w:World}{B D g n c m:Nat}{vv vv':Value}{vals vals':List Int}{q:List CtV}{p:CtV}(h:Dr w B D vv (.slice (some ⟨g,0,none⟩) n c) vals (q ++ [p]))(hO:Own elB w B vv' vals')(hR:∀x∈vals',0<=x/\x<256)(hm:q.length=m):
  Left ((w.setCell ⟨D,0,none⟩ vv').setCell ⟨g,m*4+3,none⟩ (.bool true)) D ⟨vals',q.map (·.1) ++ [{ p.1 with dead:=true }]⟩:=by
 have hg:g≠D:=fun e=>own_notD h.cO h.blk (by decide) (k:=g) rfl e
 have key:∀ {s n':Nat} {v:Value} {xs:List Value},w.ownsRow B 5 s v n' xs->((w.setCell ⟨D,0,none⟩ vv').setCell ⟨g,m*4+3,none⟩ (.bool true)).ownsRow B 5 s v n' xs:=fun hh=>by
  have h1:=own_setD hh h.blk (by decide) 0 vv'
  have h2:=own_setD h.cO h.blk (by decide) 0 vv'
  exact own_stay h1 fun k hk=>chg_set _ g (m*4+3) _ k (World.ownsRow.lt h1 k hk).2 (own_ne h1 h2 (by decide) hk)
 refine⟨vv',.slice (some ⟨g,0,none⟩) n c,innP (.slice (some ⟨g,0,none⟩) n c),q ++ [deadC p],?_,Own.row (key hO) hR,Own.row (own_dead (own_setD h.cO h.blk (by decide) 0 vv') hm) ?_,by simp[deadC]⟩
 ·rw[chg_set _ g (m*4+3) _ D (by rw[zaJ];exact h.lt) (by intro e;exact hg (Option.some.inj e).symm),drCells,zaE h.blk]
  rfl
 ·intro r hr
  rcases List.mem_append.1 hr with hr | hr
  ·obtain ⟨e1,e2,e3,e4,e5,e6⟩:=h.ok r (List.mem_append_left _ hr)
   exact⟨Own.row (key e1) e3,e4,e5⟩
  ·obtain rfl:=List.mem_singleton.1 hr
   obtain⟨e1,e2,e3,e4,e5,e6⟩:=h.ok p (by simp)
   exact⟨Own.row (key e1) e3,e4,e5⟩
theorem kill_none {B D:Nat}{vv cv:Value}{vals:List Int}{w:World}(h:Dr w B D vv cv vals [])(s:Stk):
  Calls Tryz.prog 166 #[.pointer (some ⟨D,0,none⟩)] w fun e w'=>MadeTold D 5 s e w'/\Below B w w':=by
 obtain⟨c0,c1,c2,f0,f1,f2⟩:=dr_cells h.blk
 rw[h.outer rfl] at c2
 clear h
 go_enter Tryz.func166,Tryz.ntmps166
 go_wp2_with fail
 exact bodyPost_ret (v:=.int .i64 5) (by simp[results,Tryz.results166,go_sem]) rfl ⟨⟨rfl,fun h=>absurd h (by decide)⟩,Below.refl _ _⟩
theorem kill_some {B D k:Nat}{vv cv:Value}{vals:List Int}{q:List CtV}{p:CtV}{w:World}(h:Dr w B D vv cv vals (q ++ [p]))(hk:p.1.ht=(k:Int))(hkl:k<=vals.length)(hBw:B<=w.heap.size):
  Calls Tryz.prog 166 #[.pointer (some ⟨D,0,none⟩)] w fun e w'=>MadeTold D 0 ⟨vals.take k,q.map (·.1) ++ [{ p.1 with dead:=true }]⟩ e w'/\Below B w w':=by
 have HB:=hid (zaI w)
 have HH:=hid (h.keep HB.out)
 have HT:Hid (∀A n c,vv= .slice A n c->Own elB w.drew B (.slice A k c) (vals.take k)):=fun A n c e=>by
  have hO:=HH.out.vO
  rw[e] at hO
  exact Own.take hO k hkl
 obtain⟨b0,b1,b2,d0,d1,d2⟩:=dr_cells h.blk
 obtain⟨c0,c1,c2,f0,f1,f2⟩:=dr_cells HH.out.blk
 obtain⟨g,cc_,qq,m,rfl,x1,x2,x3,x4,e2,hg,hgD,k0,k1,k2,k3,kf,hE⟩:=HH.out.inner (p:=p) (by simp)
 have hqm:q.length=m:=by simpa using x2
 rw[e2] at c2 b2
 rw[hk] at k2
 have hf3:=kf (qq+3)
 have HK:Hid (∀vv',Own elB w.drew B vv' (vals.take k)->Left ((w.drew.setCell ⟨D,0,none⟩ vv').setCell ⟨g,qq+3,none⟩ (.bool true)) D ⟨vals.take k,q.map (·.1) ++ [{ p.1 with dead:=true }]⟩):=fun vv' hO=>by
  rw[x4]
  exact HH.out.killed hO (fun x hx=>h.vR x (List.mem_of_mem_take hx)) hqm
 obtain⟨n,hn⟩:∃n,(q ++ [p]).length=n:=⟨_,rfl⟩
 rw[hn] at c1 b1 HH
 have hD:=h.hD
 have HDg:Hid (B<=g):=(World.ownsRow.lt HH.out.cO g rfl).1
 obtain⟨z1,⟨hv,hl⟩ | ⟨gv,cap,cur,hv,hB,hc,hle,hm,hsz,ht⟩⟩:=id h.vO
 ·have hk0:k=0:=by omega
  subst hk0
  subst hv
  have HT2:=hid (HK.out _ (HT.out _ _ _ rfl))
  clear z1 h hkl hl hk x1 x2 x3 x4 e2 hE kf HT HK k0 k1 hqm hn
  go_enter Tryz.func166,Tryz.ntmps166
  go_wp2_with fail
  go_still_tail 14,(by kernel_rfl)
  change wpList _ _ _ _ _ w.drew
  have hgD':(⟨g,qq+3,none⟩:Addr)≠⟨D,0,none⟩:=fun e=>hgD (congrArg Addr.block e)
  clear b0 b1 b2 d0 d1 d2
  generalize w.drew=w1 at *
  go_wp2_with fail
  exact bodyPost_ret (v:=.int .i64 0) (by simp[results,Tryz.results166,go_sem]) rfl ⟨⟨rfl,fun _=>HT2.out⟩,((HB.out.mono hBw).setCell (p:=⟨D,0,none⟩) hD _).setCell (p:=⟨g,qq+3,none⟩) HDg.out _⟩
 ·subst hv
  have i1:(0:Int)<=(k:Int):=by omega
  have i2:(k:Int)<=(cap:Int):=by omega
  have i2':k<=cap:=by omega
  have HT2:=hid (HK.out _ (HT.out _ _ _ rfl))
  obtain⟨nv,hnv⟩:∃nv,vals.length=nv:=⟨_,rfl⟩
  rw[hnv] at c0 b0 HH
  clear z1 h hkl hk x1 x2 x3 x4 e2 hE kf HT HK k0 k1 hqm hn hB hc hle hm hsz ht hnv
  go_enter Tryz.func166,Tryz.ntmps166
  go_wp2_with fail
  go_still_tail 14,(by kernel_rfl)
  change wpList _ _ _ _ _ w.drew
  have hgD':(⟨g,qq+3,none⟩:Addr)≠⟨D,0,none⟩:=fun e=>hgD (congrArg Addr.block e)
  clear b0 b1 b2 d0 d1 d2
  generalize w.drew=w1 at *
  go_wp2_with fail
  exact bodyPost_ret (v:=.int .i64 0) (by simp[results,Tryz.results166,go_sem]) rfl ⟨⟨rfl,fun _=>HT2.out⟩,((HB.out.mono hBw).setCell (p:=⟨D,0,none⟩) hD _).setCell (p:=⟨g,qq+3,none⟩) HDg.out _⟩
theorem clip_any {A:Option Addr}{n c:Nat}{w:World}(hc:n<=c)(hA:A=none->c=0):Calls Tryz.prog 115 #[.slice A n c] w fun e w'=>e= .returned (.slice A n n)/\w'=w:=by
 have i1:(0:Int)<=(n:Int):=by omega
 have i2:(n:Int)<=(c:Int):=by omega
 rcases A with _ | ⟨g,o,s⟩
 ·obtain rfl:c=0:=hA rfl
  obtain rfl:n=0:=by omega
  go_enter Tryz.func115,Tryz.ntmps115
  go_wp2_with fail
  exact bodyPost_ret (v:=.slice none 0 0) (by simp[results,Tryz.results115,go_sem]) rfl ⟨rfl,rfl⟩
 ·clear hA
  go_enter Tryz.func115,Tryz.ntmps115
  go_wp2_with fail
  exact bodyPost_ret (v:=.slice (some ⟨g,o,s⟩) n n) (by simp[results,Tryz.results115,go_sem]) rfl ⟨rfl,rfl⟩
structure Rw (w:World) (B:Nat) (vv cv:Value) (vals:List Int) (l:List CtV):Prop where
 vO:Own elB w B vv vals
 vR:∀x∈vals,0<=x/\x<256
 cO:Own elP w B cv l
 ok:∀p∈l,EndOk w B vv p
theorem Dr.rw {w:World}{B D:Nat}{vv cv:Value}{vals:List Int}{l:List CtV}(h:Dr w B D vv cv vals l):Rw w B vv cv vals l:=⟨h.vO,h.vR,h.cO,h.ok⟩
theorem Rw.keep {w w':World}{B:Nat}{vv cv:Value}{vals:List Int}{l:List CtV}(h:Rw w B vv cv vals l)(hb:Below w.heap.size w w'):Rw w' B vv cv vals l:=
 ⟨own_keep h.vO hb,h.vR,own_keep h.cO hb,fun p hp=>(h.ok p hp).keep hb⟩
theorem own_but {w w':World}{B D e s n:Nat}{v vv cv pv:Value}{xs:List Value}(h:w.ownsRow B e s v n xs)(hd:w.heap[D]? = some (drCells vv cv pv))(hne:e≠167)(hb:But D w w'):w'.ownsRow B e s v n xs:=
 own_stay h fun k hk=>hb.block k (World.ownsRow.lt h k hk).2 (own_notD h hd hne hk)
theorem Rw.but {w w':World}{B D:Nat}{vv cv v1 v2 v3:Value}{vals:List Int}{l:List CtV}(h:Rw w B vv cv vals l)(hd:w.heap[D]? = some (drCells v1 v2 v3))(hb:But D w w'):Rw w' B vv cv vals l:=
 ⟨own_but h.vO hd (by decide) hb,h.vR,own_but h.cO hd (by decide) hb,fun p hp=>⟨own_but (h.ok p hp).1 hd (by decide) hb,(h.ok p hp).2⟩⟩
theorem Rw.beside {w w':World}{B R:Nat}{vv cv:Value}{vals:List Int}{l:List CtV}{cur:Array Value}(h:Rw w B vv cv vals l)(hr:w.heap[R]? = some (.cells cur 72 (0,0)))(hcv:cv.ownBlock≠some R)(hb:Chg w w' (some R)):Rw w' B vv cv vals l:=by
 have key:∀ {s n:Nat} {v:Value} {xs:List Value},w.ownsRow B 5 s v n xs->w'.ownsRow B 5 s v n xs:=fun hh=>own_stay hh fun k hk=>hb k (World.ownsRow.lt hh k hk).2 (by
  intro e
  obtain⟨cur',h1⟩:=own_type hh hk
  rw[Option.some.inj e,hr] at h1
  simp at h1)
 exact⟨key h.vO,h.vR,own_stay h.cO fun k hk=>hb k (World.ownsRow.lt h.cO k hk).2 (by intro e;exact hcv (hk.trans e)),fun p hp=>⟨key (h.ok p hp).1,(h.ok p hp).2⟩⟩
theorem Rw.rowP {w:World}{B:Nat}{vv cv:Value}{vals:List Int}{l:List CtV}(h:Rw w B vv cv vals l):Row elP w cv l:=h.cO.row fun p hp=>⟨(h.ok p hp).1.row (h.ok p hp).2.2.1,(h.ok p hp).2.2.2.1,(h.ok p hp).2.2.2.2.1⟩
theorem row_take {α:Type}{T:El α}{w:World}{A:Option Addr}{n c:Nat}{l:List α}(h:Row T w (.slice A n c) l)(k c':Nat)(hk:k<=l.length)(hc:k<=c')(hm:c'<=9223372036854775807):Row T w (.slice A k c') (l.take k):=by
 obtain⟨⟨A',c'',h1,h2,h3,h4⟩,h5⟩:=h
 injection h1 with e1 e2 e3
 subst e1
 have hl:(l.take k).length=k:=by rw[List.length_take];omega
 refine⟨⟨A,c',by rw[hl],by omega,hm,fun h0=>?_⟩,fun p hp=>h5 p (List.mem_of_mem_take hp)⟩
 obtain⟨g,off,e,hg,hC⟩:=h4 (by intro e;rw[e] at h0;simp at h0)
 refine⟨g,off,e,hg,fun j p hp=>hC j p ?_⟩
 rw[List.getElem?_take] at hp
 split at hp
 ·exact hp
 ·cases hp
def zC:Value:=.agg #[.int .i64 0,.slice none 0 0,.int .i64 0,.bool false]
theorem chg4 (w:World)(r:Nat)(a b c d:Value):Chg w ((((w.setCell ⟨r,0,none⟩ a).setCell ⟨r,1,none⟩ b).setCell ⟨r,2,none⟩ c).setCell ⟨r,3,none⟩ d) (some r):=fun k hk hne=>by
 have h:k≠r:=fun e=>hne (congrArg some e)
 rw[Below.heap_setCell _ _ _ _ h,Below.heap_setCell _ _ _ _ h,Below.heap_setCell _ _ _ _ h,Below.heap_setCell _ _ _ _ h]
def ClosedNo (e:Ending):Prop:=e= .returned (.tuple #[zC,.int .i64 5])
def ClosedYes (B D:Nat)(p:CtV)(s:Stk)(e:Ending)(w':World):Prop:=e= .returned (.tuple #[.agg (cc p).toArray,.int .i64 0])/\∀W,(∀k,B<=k->k<w'.heap.size->W.heap[k]? = w'.heap[k]?)->Left W D s/\Row elB W p.2 p.1.fin
theorem Rw.high {w W:World}{B:Nat}{vv cv:Value}{vals:List Int}{l:List CtV}(h:Rw w B vv cv vals l)(hW:∀k,B<=k->k<w.heap.size->W.heap[k]? = w.heap[k]?):Rw W B vv cv vals l:=
 ⟨own_stay h.vO fun k hk=>hW k (World.ownsRow.lt h.vO k hk).1 (World.ownsRow.lt h.vO k hk).2,h.vR,own_stay h.cO fun k hk=>hW k (World.ownsRow.lt h.cO k hk).1 (World.ownsRow.lt h.cO k hk).2,fun p hp=>⟨own_stay (h.ok p hp).1 fun k hk=>hW k (World.ownsRow.lt (h.ok p hp).1 k hk).1 (World.ownsRow.lt (h.ok p hp).1 k hk).2,(h.ok p hp).2⟩⟩
theorem close_none {B D:Nat}{vv cv:Value}{vals:List Int}{w:World}(h:Dr w B D vv cv vals [])(hBw:B<=w.heap.size):
  Calls Tryz.prog 85 #[.pointer (some ⟨D,0,none⟩)] w fun e w'=>ClosedNo e/\Below B w w':=by
 have HB:=hid ((Below.refl w.heap.size w).alloc (Nat.le_refl _) (.cells #[.int .i64 0,.slice none 0 0,.int .i64 0,.bool false] 72))
 obtain⟨c0,c1,c2,f0,f1,f2⟩:=dr_cells (h.keep HB.out).blk
 rw[h.outer rfl] at c2
 clear h
 go_enter Tryz.func85,Tryz.ntmps85
 go_wp2_with fail
 refine bodyPost_ret (v:=.tuple #[zC,.int .i64 5]) (by simp[results,Tryz.results85,go_sem,zC]) rfl ⟨rfl,?_⟩
 repeat (first | with_reducible exact (HB.out.mono hBw) | refine Below.setCell ?_ (by first | (simp;done) | (simp;omega)) _)
def CloseTold (B D:Nat)(p:CtV)(q:List CtV)(R:Option (List Int))(w:World)(e:Ending)(w':World):Prop:=
 ((∀vs,R=some vs->(vs.length:Int)≠p.1.ht)->ClosedNo e)/\(∀vs,R=some vs->(vs.length:Int)=p.1.ht->ClosedYes B D p ⟨vs,q.map (·.1)⟩ e w')/\Below B w w'
theorem close_some {B D:Nat}{vv cv:Value}{vals:List Int}{q:List CtV}{p:CtV}{w:World}(h:Dr w B D vv cv vals (q ++ [p]))(hl:vals.length<=1000000)(hfl:p.1.fin.length<=1000000)(hql:q.length<=1000000)(hBw:B<=w.heap.size)(R:Option (List Int))(hR:wantV (some p.1) vals p.1.fin.reverse=R):
  Calls Tryz.prog 85 #[.pointer (some ⟨D,0,none⟩)] w (CloseTold B D p q R w):=by
 have HB:=hid ((Below.refl w.heap.size w).alloc (Nat.le_refl _) (.cells #[.int .i64 0,.slice none 0 0,.int .i64 0,.bool false] 72))
 have HZ:=hid (zaC w (.cells #[.int .i64 0,.slice none 0 0,.int .i64 0,.bool false] 72))
 have HS:=hid (zaD w (.cells #[.int .i64 0,.slice none 0 0,.int .i64 0,.bool false] 72))
 have HH:=hid (h.keep HB.out)
 have HD:=hid h.lt
 obtain⟨c0,c1,c2,f0,f1,f2⟩:=dr_cells HH.out.blk
 obtain⟨g,cc_,qq,m,rfl,x1,x2,x3,x4,e2,hg,hgD,k0,k1,k2,k3,kf,hE⟩:=HH.out.inner (p:=p) (by simp)
 have HG:Hid (g<w.heap.size):=(World.ownsRow.lt h.cO g rfl).2
 rw[e2] at c2
 have hX:∀W,But D (w.alloc (.cells #[.int .i64 0,.slice none 0 0,.int .i64 0,.bool false] 72)) W->Row elB W p.2 p.1.fin:=fun W hW=>Own.row (own_but hE.1 HH.out.blk (by decide) hW) hE.2.2.1
 have HC:=hid (want_any HH.out hl hX hfl)
 rw[show ((q ++ [p]).map (·.1)).getLast? = some p.1 by simp,hR] at HC
 obtain⟨Pe,ce,hpe⟩:=hE.1.form
 obtain⟨ne,hne⟩:∃ne,p.1.fin.length=ne:=⟨_,rfl⟩
 rw[hne] at hpe
 have HX:=hid hX
 have hqm:q.length=m:=by simpa using x2
 have HQM:=hid hqm
 obtain⟨n,hn⟩:∃n,(q ++ [p]).length=n:=⟨_,rfl⟩
 have HNM:Hid (n=m+1):=by show _=_;rw[<- hn];exact x2
 have HML:Hid (m<=1000000):=by show _<=_;omega
 have HCL:Hid (n<=cc_):=by show _<=_;rw[<- hn];exact x1
 rw[hn] at c1 HH HC e2
 rw[hpe] at k1 HC
 have HPE:=hid hpe
 have HE2:=hid e2
 have hD:=h.hD
 clear h hl hfl hql hR hX x1 x2 x3 x4 kf hE hne hpe hqm hn e2
 go_enter Tryz.func85,Tryz.ntmps85
 go_wp2_with fail
 generalize hW0:w.alloc (.cells #[.int .i64 0,.slice none 0 0,.int .i64 0,.bool false] 72)=W0 at *
 have HR:Hid (w.heap.size<W0.heap.size):=by show _<_;rw[HS.out];omega
 obtain⟨r,hr⟩:∃r,w.heap.size=r:=⟨_,rfl⟩
 rw[hr] at HZ HD HG HR hBw ⊢
 have HBB:Hid (Below B w W0):=HB.out.mono (by rw[hr];exact hBw)
 clear hW0 c0 c1 c2 f0 f1 f2 k0 k1 k2 k3 hg HB HS hr
 refine HC.out.mono ?_
 rintro e w1 ht
 cases R with
 | none=>
  obtain⟨rfl,hb1⟩:=ht
  have HB1:=hid (HBB.out.trans (hb1.below hD (by have:=HR.out;have:=HD.out;omega)))
  have hz1:w1.heap[r]? = some (.cells #[.int .i64 0,.slice none 0 0,.int .i64 0,.bool false] 72 (0,0)):=(hb1.block r HR.out (by have:=HD.out;omega)).trans HZ.out
  have q0:=zaA hz1 0
  have q1:=zaA hz1 1
  have q2:=zaA hz1 2
  have q3:=zaA hz1 3
  obtain⟨q0,p0⟩:=q0
  obtain⟨q1,p1⟩:=q1
  obtain⟨q2,p2⟩:=q2
  obtain⟨q3,p3⟩:=q3
  simp only[List.getElem?_toArray,List.getElem?_cons_zero,List.getElem?_cons_succ] at q0 q1 q2 q3
  clear hb1 HC hz1
  go_wp2_with fail
  refine bodyPost_ret (v:=.tuple #[zC,.int .i64 5]) (by simp[results,Tryz.results85,go_sem,zC,q0,q1,q2,q3]) rfl ⟨fun _=>rfl,(fun vs h=>by cases h),?_⟩
  repeat (first | with_reducible exact HB1.out | refine Below.setCell ?_ (by exact hBw) _)
 | some vs=>
  obtain⟨vv1,rfl,hd1,hb1⟩:=ht
  have HB1:=hid (HBB.out.trans (hb1.below hD (by have:=HR.out;have:=HD.out;omega)))
  have HZ1:Hid (w1.heap[r]? = some (.cells #[.int .i64 0,.slice none 0 0,.int .i64 0,.bool false] 72 (0,0))):=(hb1.block r HR.out (by have:=HD.out;omega)).trans HZ.out
  have HS1:Hid (r<w1.heap.size):=lt_of_heap HZ1.out
  have HH1:=hid hd1
  obtain⟨b0,b1,b2,d0,d1,d2⟩:=dr_cells hd1.blk
  obtain⟨g',c',qq',m',y1,y2,y3,y4,y5,y6,y7,y8,k0,k1,k2,k3,kf,hE⟩:=hd1.inner (p:=p) (by simp)
  injection y1 with z1 z2 z3
  simp only[Option.some.injEq,Addr.mk.injEq,and_true] at z1
  subst z1
  rw[HE2.out] at y6 b2
  simp only[Value.pointer.injEq,Option.some.injEq,Addr.mk.injEq,and_true,true_and] at y6
  subst y6
  rw[HPE.out] at k1
  obtain⟨Pv,cvv,hvv⟩:=hd1.vO.form
  obtain⟨nv,hnv⟩:∃nv,vs.length=nv:=⟨_,rfl⟩
  rw[hnv] at hvv
  subst hvv
  obtain⟨ht,hht⟩:∃ht,p.1.ht=ht:=⟨_,rfl⟩
  rw[hht] at k2
  have HHT:=hid hht
  have HNV:=hid hnv
  by_cases hne:(nv:Int)=ht
  ·have t5:((nv:Int) != ht)=false:=by simpa using hne
   have HNE:=hid hne
   have HE0:=hid hE
   clear hne hb1 HC hd1 y2 y3 y4 y5 y8 z2 z3 kf hE hht hnv
   go_wp2_with fail
   go_quiet (fail)
   have HBq:=hid (drewB w1 nq (Nat.le_refl w1.heap.size))
   have HH2:=hid (HH1.out.keep HBq.out)
   have HB2:=hid (HB1.out.trans (HBq.out.mono (by have:=HS1.out;omega)))
   have HZ2:=hid ((HBq.out.block r HS1.out).trans HZ1.out)
   have HE2':=hid (HE0.out.keep HBq.out)
   have k0:=(HBq.out.cell (p:=⟨g,qq,none⟩) y7).trans k0
   have k1:=(HBq.out.cell (p:=⟨g,qq+1,none⟩) y7).trans k1
   have k2:=(HBq.out.cell (p:=⟨g,qq+2,none⟩) y7).trans k2
   have k3:=(HBq.out.cell (p:=⟨g,qq+3,none⟩) y7).trans k3
   obtain⟨b0,b1,b2,d0,d1,d2⟩:=dr_cells HH2.out.blk
   rw[HE2.out] at b2
   generalize w1.drewN nq=w2 at *
   have HS2:Hid (r<w2.heap.size):=lt_of_heap HZ2.out
   have HT5:Hid ((nv:Int)=p.1.ht):=by show _=_;rw[HHT.out];exact HNE.out
   clear b0 b1 b2 d0 d1 d2
   obtain⟨b0,b1,b2,d0,d1,d2⟩:=dr_cells HH2.out.blk
   rw[HE2.out] at b2
   go_wp2_with fail
   obtain⟨O,hO⟩:∃O,Obj.cells #[.int .i64 p.1.op,.slice Pe ne ce,.int .i64 ht,.bool p.1.dead] 72 (0,0)=O:=⟨_,rfl⟩
   have HB3:=hid ((Below.refl w2.heap.size w2).alloc (Nat.le_refl _) O)
   have HX3:=hid (zaC w2 O)
   have HS3:=hid (zaD w2 O)
   rw[hO]
   generalize w2.alloc O=w3 at *
   obtain⟨x,hx⟩:∃x,w2.heap.size=x:=⟨_,rfl⟩
   have HB4:=hid (HB3.out.trans ((zaI w3).mono (by rw[HS3.out];omega)))
   have HX4:Hid (w3.drew.heap[x]? = some O):=by show _=_;rw[<- hx];exact HX3.out
   have HH4:=hid (HH2.out.keep HB4.out)
   have HZ4:=hid ((HB4.out.block r HS2.out).trans HZ2.out)
   have HB4b:=hid (HB2.out.trans (HB4.out.mono (by have:=HS2.out;omega)))
   have HRX:Hid (r<x):=by show _<_;rw[<- hx];exact HS2.out
   rw[hx]
   clear hx k0 k1 k2 k3 b0 b1 b2 d0 d1 d2 t5
   have e3:IntKind.i64.wrap ((n:Int) - 1)=(m:Int):=by have:=HNM.out;have:=HML.out;rw[IntWalk.i64_in _ (by omega)];omega
   have i1:(0:Int)<=(m:Int):=by omega
   have i2:(m:Int)<=(cc_:Int):=by have:=HNM.out;have:=HCL.out;omega
   have i2':m<=cc_:=by have:=HNM.out;have:=HCL.out;omega
   obtain⟨b0,b1,b2,d0,d1,d2⟩:=dr_cells (HH2.out.keep HB3.out).blk
   rw[HE2.out] at b2
   go_still_tail 15,(by kernel_rfl)
   still_call (clip_any (A:=some ⟨g,0,none⟩) (w:=w3.drew) i2' (fun h=>by cases h))
   refine wpStill_nil ?_
   change wpList _ _ _ _ _ w3.drew
   clear b0 b1 b2 d0 d1 d2
   obtain⟨b0,b1,b2,d0,d1,d2⟩:=dr_cells HH4.out.blk
   rw[HE2.out] at b2
   generalize w3.drew=w5 at *
   have HH5:Hid ((w5.setCell ⟨D,1,none⟩ (.slice (some ⟨g,0,none⟩) m m)).heap[D]? = some (drCells (.slice Pv nv cvv) (.slice (some ⟨g,0,none⟩) m m) (innP (.slice (some ⟨g,0,none⟩) n cc_)))):=by show _=_;rw[zaE HH4.out.blk];rfl
   have HBt:=hid ((But.refl D w5).setCell 1 (.slice (some ⟨g,0,none⟩) m m))
   have HSe:=hid (settle_any HH5.out (fun _=>⟨g,rfl⟩) (Nat.le_refl m) HML.out)
   go_wp2_with fail
   refine HSe.out.mono ?_
   rintro e w6 ⟨rfl,hd6,hb6⟩
   have HB6:=hid (HBt.out.trans hb6)
   have HS5:Hid (x<w5.heap.size):=lt_of_heap HX4.out
   have HX6:Hid (w6.heap[x]? = some O):=(HB6.out.block x HS5.out (by have:=HD.out;have:=HRX.out;omega)).trans HX4.out
   have HZ6:=hid ((HB6.out.block r (lt_of_heap HZ4.out) (by have:=HD.out;omega)).trans HZ4.out)
   have HD6:=hid hd6
   have HR6:=hid (HH4.out.rw.but HH4.out.blk HB6.out)
   have HBf:=hid (HB4b.out.trans (HB6.out.below hD (by have:=HD.out;have:=HRX.out;have:=HS5.out;omega)))
   have hx6:=HX6.out
   have hz6:=HZ6.out
   rw[<- hO] at hx6
   obtain⟨q0,p0⟩:=zaA hz6 0
   obtain⟨q1,p1⟩:=zaA hz6 1
   obtain⟨q2,p2⟩:=zaA hz6 2
   obtain⟨q3,p3⟩:=zaA hz6 3
   have l0:=(zaA hx6 0).1
   have l1:=(zaA hx6 1).1
   have l2:=(zaA hx6 2).1
   have l3:=(zaA hx6 3).1
   simp only[List.getElem?_toArray,List.getElem?_cons_zero,List.getElem?_cons_succ] at q0 q1 q2 q3 l0 l1 l2 l3
   clear hd6 hb6 hx6 hz6 b0 b1 b2 d0 d1 d2 hO
   go_wp2_with fail
   have HR7:=hid (HR6.out.beside HZ6.out (by intro e;have:=HG.out;have:g=r:=Option.some.inj e;omega) (chg4 w6 r (.int .i64 p.1.op) (.slice Pe ne ce) (.int .i64 ht) (.bool p.1.dead)))
   have HD7:=hid ((chg4 w6 r (.int .i64 p.1.op) (.slice Pe ne ce) (.int .i64 ht) (.bool p.1.dead) D (lt_of_heap HD6.out) (by intro e;have:=HD.out;have:D=r:=Option.some.inj e;omega)).trans HD6.out)
   refine bodyPost_ret (v:=.tuple #[.agg (cc p).toArray,.int .i64 0]) (by simp[results,Tryz.results85,go_sem,q0,q1,q2,q3,cc,HPE.out,HHT.out]) rfl ⟨fun hno=>absurd (by rw[HNV.out];exact HT5.out) (hno vs rfl),(fun vs' h' _=>?_),?_⟩
   ·obtain rfl:=Option.some.inj h'
    refine⟨rfl,fun W hW=>?_⟩
    have HR8:=HR7.out.high hW
    have HD8:=(hW D hD (lt_of_heap HD7.out)).trans HD7.out
    refine⟨⟨_,_,_,q,HD8,HR8.vO.row HR8.vR,?_,rfl⟩,?_⟩
    ·have:=row_take HR8.rowP m m (by simp;have:=HQM.out;omega) (Nat.le_refl m) (by have:=HML.out;omega)
     rw[List.take_left' HQM.out] at this
     exact this
    ·have:=HR8.ok p (by simp)
     exact this.1.row this.2.2.1
   ·repeat (first | with_reducible exact HBf.out | refine Below.setCell ?_ (by exact hBw) _)
  ·have t5:((nv:Int) != ht)=true:=by simpa using hne
   have HNE:=hid hne
   clear hne hb1 HC hd1 y2 y3 y4 y5 y7 y8 z2 z3 kf hE hht hnv
   go_wp2_with fail
   go_quiet (fail)
   have HB2:=hid (HB1.out.trans ((drewB w1 nq (Nat.le_refl w1.heap.size)).mono (by have:=HS1.out;omega)))
   have hz2:=((drewB w1 nq (Nat.le_refl w1.heap.size)).block r HS1.out).trans HZ1.out
   obtain⟨q0,p0⟩:=zaA hz2 0
   obtain⟨q1,p1⟩:=zaA hz2 1
   obtain⟨q2,p2⟩:=zaA hz2 2
   obtain⟨q3,p3⟩:=zaA hz2 3
   simp only[List.getElem?_toArray,List.getElem?_cons_zero,List.getElem?_cons_succ] at q0 q1 q2 q3
   clear hz2 b0 b1 b2 d0 d1 d2 k0 k1 k2 k3
   generalize w1.drewN nq=w2 at *
   go_wp2_with fail
   refine bodyPost_ret (v:=.tuple #[zC,.int .i64 5]) (by simp[results,Tryz.results85,go_sem,zC,q0,q1,q2,q3]) rfl ⟨fun _=>rfl,(fun vs' h h'=>absurd h' ?_),?_⟩
   ·obtain rfl:=Option.some.inj h
    rw[HNV.out,HHT.out]
    exact HNE.out
   ·repeat (first | with_reducible exact HB2.out | refine Below.setCell ?_ (by exact hBw) _)
theorem Rw.left {w:World}{B D:Nat}{vv cv pv:Value}{vals:List Int}{l:List CtV}(h:Rw w B vv cv vals l)(hd:w.heap[D]? = some (drCells vv cv pv)):Left w D ⟨vals,l.map (·.1)⟩:=⟨_,_,_,l,hd,h.vO.row h.vR,h.rowP,rfl⟩
theorem Rw.opened {w w':World}{B:Nat}{vv cv cv':Value}{vals:List Int}{l:List CtV}{p:CtV}(h:Rw w B vv cv vals l)(hp:EndOk w B vv p)(hc:Own elP w' B cv' (l ++ [p]))(hch:Chg w w' cv.ownBlock):Rw w' B vv cv' vals (l ++ [p]):=by
 have key:∀ {s n:Nat} {v:Value} {xs:List Value},w.ownsRow B 5 s v n xs->w'.ownsRow B 5 s v n xs:=fun hh=>own_stay hh fun k hk=>hch k (World.ownsRow.lt hh k hk).2 (own_ne hh h.cO (by decide) hk)
 refine⟨key h.vO,h.vR,hc,fun r hr=>?_⟩
 rcases List.mem_append.1 hr with hr | hr
 ·exact ⟨key (h.ok r hr).1,(h.ok r hr).2⟩
 ·obtain rfl:=List.mem_singleton.1 hr
  exact⟨key hp.1,hp.2⟩
theorem zaB (w:World)(o:Obj):Below w.heap.size w (w.alloc o):=(Below.refl _ _).alloc (Nat.le_refl _) o
theorem Dr.next {w w':World}{B D:Nat}{vv cv:Value}{vals:List Int}{l:List CtV}{o:Obj}(h:Dr w B D vv cv vals l)(hc:Chg (w.alloc o) w' cv.ownBlock):w'.heap[D]? = some (drCells vv cv (innP cv)):=by
 have h1:=h.keep (zaB w o)
 rw[hc D h1.lt (fun e=>own_notD h1.cO h1.blk (by decide) e.symm rfl)]
 exact h1.blk
theorem Dr.openedA {w w':World}{B D:Nat}{vv cv cv':Value}{vals:List Int}{l:List CtV}{p:CtV}{o:Obj}(h:Dr w B D vv cv vals l)(hp:EndOk w B vv p)(hc:Own elP w' B cv' (l ++ [p]))(hch:Chg (w.alloc o) w' cv.ownBlock):Rw w' B vv cv' vals (l ++ [p]):=
 (h.rw.keep (zaB w o)).opened (hp.keep (zaB w o)) hc hch
theorem open_any {B D:Nat}{vv cv x:Value}{op:Int}{vals xs:List Int}{l:List CtV}{w:World}(h:Dr w B D vv cv vals l)(hx:Row elB w x xs)(hop:w64 op)(hl:vals.length<=1000000)(hll:l.length+1<=1000000)(hxl:xs.length<=1000000)(hBw:B<=w.heap.size):
  Calls Tryz.prog 144 #[.pointer (some ⟨D,0,none⟩),.int .i64 op,x] w fun e w'=>MadeTold D (chosen (mayE xs) 0 1) ⟨vals,l.map (·.1) ++ [⟨op,xs,vals.length,false⟩]⟩ e w'/\Below B w w':=by
 have HM:=hid (mayend_any hx)
 obtain⟨P,c,rfl,hc,hm⟩:=hx.form
 cases hq:mayE xs with
 | false=>
  rw[hq] at HM
  clear h hx hl hc hm hq hop hll hxl
  go_enter Tryz.func144,Tryz.ntmps144
  go_wp2_with fail
  refine HM.out.mono ?_
  rintro e w1 ⟨rfl,rfl⟩
  go_wp2_with fail
  exact bodyPost_ret (v:=.int .i64 1) (by simp[results,Tryz.results144,go_sem]) rfl ⟨⟨rfl,fun h=>absurd h (by decide)⟩,Below.refl _ _⟩
 | true=>
  rw[hq] at HM
  have HB:=hid (zaI w)
  have HH0:=hid h
  have HH:=hid (h.keep HB.out)
  have HC:=hid (clone_any (hx.keep HB.out) hxl)
  have HXR:=hid hx.2
  have hD:=h.hD
  have HDs:=hid h.lt
  have HVB:=hid (fun k hk=>(World.ownsRow.lt h.vO k hk).2)
  obtain⟨Pv,cv_,hv⟩:=h.vO.form
  obtain⟨Pc,cc_,hcv⟩:=h.cO.form
  obtain⟨nx,hnx⟩:∃n,xs.length=n:=⟨_,rfl⟩
  obtain⟨m,hm2⟩:∃m,vals.length=m:=⟨_,rfl⟩
  obtain⟨n,hn⟩:∃n,l.length=n:=⟨_,rfl⟩
  rw[hm2] at hv hl ⊢
  rw[hnx] at HC HM ⊢
  rw[hn] at hcv hll
  subst hv hcv
  obtain⟨b0,b1,b2,d0,d1,d2⟩:=dr_cells h.blk
  have HNX:=hid hnx
  have HN:=hid hn
  have HLL:=hid hll
  have HOP:=hid hop
  have HL:Hid (w64 (m:Int)):=⟨by omega,by omega⟩
  have HM0:Hid ((0:Int)<=(m:Int)):=hid (by omega)
  clear h hx hl hc hm hq hnx hm2 hn hll hop
  go_enter Tryz.func144,Tryz.ntmps144
  go_wp2_with fail
  refine HM.out.mono ?_
  rintro e w1 ⟨rfl,rfl⟩
  go_wp2_with fail
  go_region_law (first
   | (go_simp;go_at_call 44;refine (HC.out).mono ?_;rintro en w6 ⟨⟨vE,rfl,hoE⟩,hbE⟩;obtain ⟨PE,cE,hvE⟩:=hoE.form;rw[HNX.out] at hvE;subst hvE;have HOE:=hid hoE;have HBE:=hid hbE;have HH6:=hid (HH.out.keep hbE);have hD6:=(HH.out.keep hbE).lt;obtain ⟨r0,r1,r2,s0,s1,s2⟩:=dr_cells (HH.out.keep hbE).blk;have HB6:=hid ((HB.out.mono hBw).trans (hbE.mono (show B<=w1.drew.heap.size from hBw)));clear hoE hbE)
   | (refine step_oneG elP 37 Tryz.underlying37 _ rfl (.tmp 15) (.tmp 26) rfl B _ l (⟨op,xs,(m:Int),false⟩,.slice PE nx cE) (n+1) ⟨(HOE.out.row HXR.out).keep (Below.alloc (Below.refl _ _) (Nat.le_refl _) _),HOP.out,HL.out⟩ (by rfl) (own_keep HH6.out.cO (Below.alloc (Below.refl _ _) (Nat.le_refl _) _)) w6.heap.size (by rfl) (newG' elP w6 _ _ _ rfl rfl) (by rw[HN.out]) HLL.out (by decide) (Nat.le_trans (show B<=w6.heap.size from Nat.le_trans (show B<=w1.drew.heap.size from hBw) HBE.out.size) (by simp)) ?_;intro g7 c7 w7 ho7 hb7 hc7;have hd7:=HH6.out.next hc7;obtain ⟨r0,r1,r2,s0,s1,s2⟩:=dr_cells hd7))
  all_goals (
   have HE:Hid (EndOk w6 B (.slice Pv m cv_) (⟨op,xs,(m:Int),false⟩,.slice PE nx cE)):=
    ⟨own_low HOE.out (show B<=w1.drew.heap.size from hBw),(fun k hk e=>by
     have h1:=(World.ownsRow.lt HOE.out k hk).1
     have h2:k<w1.drew.heap.size:=HVB.out k e.symm
     omega),HXR.out,HOP.out,HL.out,HM0.out⟩
   have HR7:=hid (HH6.out.openedA HE.out ho7 hc7)
   have HD7:=hid hd7
   have HB7:=hid ((HB6.out.trans ((zaB w6 _).mono (Nat.le_trans (show B<=w1.drew.heap.size from hBw) HBE.out.size))).trans hb7)
   have HS7:=hid (lt_of_heap hd7)
   have HH8:Hid ((w7.setCell ⟨D,1,none⟩ (.slice (some ⟨g7,0,none⟩) (n+1) c7)).heap[D]? = some (drCells (.slice Pv m cv_) (.slice (some ⟨g7,0,none⟩) (n+1) c7) (innP (.slice Pc n cc_)))):=by show _=_;rw[zaE hd7];rfl
   have HBt:=hid ((But.refl D w7).setCell 1 (.slice (some ⟨g7,0,none⟩) (n+1) c7))
   have HC7:Hid (n+1<=c7):=by
    obtain⟨_,⟨hv,_⟩ | ⟨g',cap,cur,hv,_,_,hle,_⟩⟩:=ho7
    ·cases hv
    ·injection hv with _ _ e3
     subst e3
     rw[List.length_append,List.length_singleton,HN.out] at hle
     exact hle
   have HSe:=hid (settle_any HH8.out (fun _=>⟨g7,rfl⟩) HC7.out HLL.out)
   clear hd7 ho7 hb7 hc7 hD6
   go_wp2_with fail
   refine HSe.out.mono ?_
   rintro e w9 ⟨rfl,hd9,hb9⟩
   have HB9:=hid (HBt.out.trans hb9)
   have HR9:=hid (HR7.out.but HD7.out HB9.out)
   have HD9:=hid hd9
   have HBf:=hid (HB7.out.trans (HB9.out.below hD HS7.out))
   clear hd9 hb9
   go_wp2_with fail
   refine bodyPost_ret (v:=.int .i64 0) (by simp[results,Tryz.results144,go_sem]) rfl ⟨⟨rfl,fun _=>?_⟩,HBf.out⟩
   have:=HR9.out.left HD9.out
   rw[List.map_append] at this
   exact this)
structure Anew (w0 w:World) (B:Nat) (vv cv:Value) (l l':List CtV) (k:Nat):Prop where
 len:l'.length=l.length
 fst:l'.map (·.1)=l.map (·.1)
 cO:Own elP w B cv l'
 new:∀j p,j<k->l'[j]? = some p->EndOk w B vv p
 old:∀j,k<=j->l'[j]? = l[j]?
theorem flat_end (l:List CtV)(k:Nat)(p:CtV)(v:Value)(h:l[k]? = some p):(l.flatMap elP.enc).set (k*4+1) v=(l.set k (p.1,v)).flatMap elP.enc:=by
 induction l generalizing k with
 | nil=>cases h
 | cons x l ih=>
  cases k with
  | zero=>
   obtain rfl:x=p:=by simpa using h
   rfl
  | succ k=>
   rw[List.getElem?_cons_succ] at h
   rw[List.set_cons_succ,List.flatMap_cons,List.flatMap_cons,List.set_append_right _ _ (by show 4<=_;omega),show (k+1)*4+1 - (elP.enc x).length=k*4+1 from by show (k+1)*4+1 - 4=_;omega,ih k h]
theorem own_end {w:World}{B g n c k:Nat}{l:List CtV}{p:CtV}{v:Value}(h:Own elP w B (.slice (some ⟨g,0,none⟩) n c) l)(hk:l[k]? = some p):Own elP (w.setCell ⟨g,k*4+1,none⟩ v) B (.slice (some ⟨g,0,none⟩) n c) (l.set k (p.1,v)):=by
 have hkl:=(List.getElem?_eq_some_iff.1 hk).1
 have:=own_set (v:=v) (i:=k*4+1) h (by show _<l.length*4;omega)
 rw[flat_end l k p v hk] at this
 have e:(l.set k (p.1,v)).length=l.length:=by simp
 unfold Row9.Own
 rw[e]
 exact this
theorem fst_set (l:List CtV)(k:Nat)(p:CtV)(v:Value)(h:l[k]? = some p):(l.set k (p.1,v)).map (·.1)=l.map (·.1):=by
 rw[List.map_set]
 apply List.ext_getElem?
 intro i
 rw[List.getElem?_set]
 split
 ·rename_i e
  subst e
  rw[List.getElem?_map,h]
  have hkl:=(List.getElem?_eq_some_iff.1 h).1
  simp[hkl]
 ·rfl
theorem Anew.step {w0 w w':World}{B g n c k:Nat}{vv:Value}{l l':List CtV}{p:CtV}{v:Value}(h:Anew w0 w B vv (.slice (some ⟨g,0,none⟩) n c) l l' k)(hk:l'[k]? = some p)(hw:Below w.heap.size w w')(he:EndOk w' B vv (p.1,v)):
  Anew w0 (w'.setCell ⟨g,k*4+1,none⟩ v) B vv (.slice (some ⟨g,0,none⟩) n c) l (l'.set k (p.1,v)) (k+1):=by
 have hkl:=(List.getElem?_eq_some_iff.1 hk).1
 have hO:=own_keep h.cO hw
 have key:∀ {s n':Nat} {u:Value} {xs:List Value},w'.ownsRow B 5 s u n' xs->(w'.setCell ⟨g,k*4+1,none⟩ v).ownsRow B 5 s u n' xs:=fun hh=>
  own_stay hh fun i hi=>chg_set _ g (k*4+1) _ i (World.ownsRow.lt hh i hi).2 (own_ne hh hO (by decide) hi)
 refine⟨by rw[List.length_set];exact h.len,(fst_set l' k p v hk).trans h.fst,own_end hO hk,fun j q hj hq=>?_,fun j hj=>?_⟩
 ·rw[List.getElem?_set] at hq
  split at hq
  ·rename_i e
   subst e
   obtain rfl:=Option.some.inj hq
   exact⟨key he.1,he.2⟩
  ·have:=(h.new j q (by omega) hq).keep hw
   exact⟨key this.1,this.2⟩
 ·rw[List.getElem?_set,if_neg (by omega)]
  exact h.old j (by omega)
theorem Anew.far {w0 w w':World}{B:Nat}{vv cv:Value}{l l':List CtV}{k:Nat}(h:Anew w0 w B vv cv l l' k)(hb:Below w.heap.size w w'):Anew w0 w' B vv cv l l' k:=
 ⟨h.len,h.fst,own_keep h.cO hb,fun j p hj hp=>(h.new j p hj hp).keep hb,h.old⟩
theorem box2_keep {w w5:World}{x y:Value}{t:TypeId}(h:Below (w.alloc (.cells #[x,y] t)).heap.size (w.alloc (.cells #[x,y] t)) w5):w5.cell? ⟨w.heap.size,0,none⟩=some x/\w5.cell? ⟨w.heap.size,1,none⟩=some y:=by
 have hl:w.heap.size<(w.alloc (.cells #[x,y] t)).heap.size:=by rw[zaD];omega
 exact⟨(h.cell (p:=⟨w.heap.size,0,none⟩) hl).trans (zaA (zaC w _) 0).1,(h.cell (p:=⟨w.heap.size,1,none⟩) hl).trans (zaA (zaC w _) 1).1⟩
def MadeD (w:World)(s:List Int)(l:List CtV)(e:Ending)(w':World):Prop:=∃D vv cv l',e= .returned (.pointer (some ⟨D,0,none⟩))/\Dr w' w.heap.size D vv cv s l'/\l'.map (·.1)=l.map (·.1)/\Below w.heap.size w w'
theorem drafted_any {a c:Value}{vals:List Int}{l:List CtV}{w:World}(ha:Row elB w a vals)(hc:Row elP w c l)(hht:∀p∈l,0<=p.1.ht)(hvl:vals.length<=1000000)(hll:l.length<=1000000)(hel:∀p∈l,p.1.fin.length<=1000000):
  Calls Tryz.prog 113 #[.agg #[a,c]] w (MadeD w vals l):=by
 obtain⟨B,hB⟩:∃B,w.heap.size=B:=⟨_,rfl⟩
 have HBw:=hid hB
 have HA:=hid (fun W (hW:Below w.heap.size w W)=>clone_any (ha.keep hW) hvl)
 have HC:=hid (fun W (hW:Below w.heap.size w W)=>clonec_any (hc.keep hW) hll)
 have HE:=hid (fun (p:CtV) (hp:p∈l) W (hW:Below w.heap.size w W)=>clone_any ((hc.2 p hp).1.keep hW) (hel p hp))
 have HEo:=hid (fun (p:CtV) (hp:p∈l)=>(hc.2 p hp).1.form)
 have HER:=hid (fun (p:CtV) (hp:p∈l)=>(⟨(hc.2 p hp).1.2,(hc.2 p hp).2.1,(hc.2 p hp).2.2,hht p hp⟩:(∀x∈p.1.fin,0<=x/\x<256)/\w64 p.1.op/\w64 p.1.ht/\0<=p.1.ht))
 have HVR:=hid ha.2
 have HW:=hid (zaB w (.cells #[a,c] 39))
 obtain⟨Pa,ca,rfl,_⟩:=ha.form
 obtain⟨Pc,cc_,rfl,_⟩:=hc.form
 obtain⟨nv,hnv⟩:∃n,vals.length=n:=⟨_,rfl⟩
 obtain⟨n,hn⟩:∃n,l.length=n:=⟨_,rfl⟩
 rw[hnv] at HA HW ⊢
 rw[hn] at HC HW hll ⊢
 have HNV:=hid hnv
 have HN:=hid hn
 clear ha hc hht hvl hel hnv hn hB
 go_enter Tryz.func113,Tryz.ntmps113
 go_wp2_with fail
 go_region_law (first
  | (go_simp;go_at_call 44;refine (HA.out _ HW.out.drew).mono ?_;rintro en w5 ⟨⟨vA,rfl,hoA⟩,hbA⟩;obtain ⟨PA,cA,hvA⟩:=hoA.form;rw[HNV.out] at hvA;subst hvA;have HOA:=hid hoA;have HBA:=hid (HW.out.drew.trans (hbA.mono HW.out.drew.size));obtain ⟨t0,t1⟩:=box2_keep ((zaI _).trans hbA);clear hoA hbA)
  | (go_simp;go_at_call 145;refine (HC.out w5 HBA.out).mono ?_;rintro en w9 ⟨⟨vC,rfl,hoC⟩,hbC⟩;obtain ⟨PC,cC,hvC⟩:=hoC.form;rw[HN.out] at hvC;subst hvC;have HOC:=hid (own_low hoC HBA.out.size);have HOA9:=hid (own_low (own_keep HOA.out hbC) (show w.heap.size<=_ from HW.out.drew.size));have HB9:=hid (HBA.out.trans (hbC.mono HBA.out.size));clear hoC hbC)
  | (go_simp;go_at_call 145;refine (HC.out _ HW.out.drew).mono ?_;rintro en w6 ⟨⟨vC,rfl,hoC⟩,hbC⟩;obtain ⟨PC,cC,hvC⟩:=hoC.form;rw[HN.out] at hvC;subst hvC;have HOC6:=hid hoC;have HBC:=hid (HW.out.drew.trans (hbC.mono HW.out.drew.size));obtain ⟨t0,t1⟩:=box2_keep ((zaI _).trans hbC);clear hoC hbC)
  | (go_simp;go_at_call 44;refine (HA.out w6 HBC.out).mono ?_;rintro en w9 ⟨⟨vA,rfl,hoA⟩,hbA⟩;obtain ⟨PA,cA,hvA⟩:=hoA.form;rw[HNV.out] at hvA;subst hvA;have HOA9:=hid (own_low hoA HBC.out.size);have HOC:=hid (own_low (own_keep HOC6.out hbA) (show w.heap.size<=_ from HW.out.drew.size));have HB9:=hid (HBC.out.trans (hbA.mono HBC.out.size));clear hoA hbA))
 all_goals (
  have HBn:=hid (HB9.out.trans ((zaB w9 (drCells (.slice PA nv cA) (.slice PC n cC) (.pointer none))).mono HB9.out.size))
  have HDn:=hid (zaC w9 (drCells (.slice PA nv cA) (.slice PC n cC) (.pointer none)))
  have HOn:=hid (own_keep HOA9.out (zaB w9 (drCells (.slice PA nv cA) (.slice PC n cC) (.pointer none))))
  have HCn:=hid (own_keep HOC.out (zaB w9 (drCells (.slice PA nv cA) (.slice PC n cC) (.pointer none))))
  have HSn:=hid HB9.out.size
  unfold drCells at HBn HDn HOn HCn
  obtain⟨D,hD⟩:∃D,w9.heap.size=D:=⟨_,rfl⟩
  rw[hD] at HDn HSn ⊢
  obtain⟨c0,c1,c2,f0,f1,f2⟩:=dr_cells HDn.out
  clear hD t0 t1
  go_wp2_with fail
  generalize w9.alloc _=w10 at *
  have HPOS:Hid (0<n->∃g,PC=some ⟨g,0,none⟩):=fun h0=>by
   obtain⟨g,c,hv,_⟩:=own_pos (T:=elP) HCn.out (by intro e;have:=HN.out;rw[e] at this;simp at this;omega)
   injection hv with e1
   exact⟨g,e1⟩
  have HCAP:Hid (n<=cC):=by
   obtain⟨_,⟨hv,h0⟩ | ⟨g',cap,cur,hv,_,_,hle,_⟩⟩:=HCn.out
   ·rw[HN.out] at h0
    show _<=_
    omega
   ·injection hv with _ _ e3
    subst e3
    rw[HN.out] at hle
    exact hle
  clear c0 c1 c2 f0 f1 f2
  go_loopw [20] (fun k' wr=>∃ (k:Nat) (l':List CtV),k'= .int .i64 (k:Int)/\k<=n/\Below w.heap.size w wr/\wr.heap[D]? = some (drCells (.slice PA nv cA) (.slice PC n cC) (.pointer none))/\Own elB wr w.heap.size (.slice PA nv cA) vals/\Anew w wr w.heap.size (.slice PA nv cA) (.slice PC n cC) l l' k) (fun k' _=>n - (intOf k').toNat)
  case atStart=>exact ⟨0,l,by go_num,Nat.zero_le _,HBn.out,HDn.out,HOn.out,⟨rfl,rfl,HCn.out,fun j p hj=>absurd hj (by omega),fun j _=>rfl⟩⟩
  case round=>
   obtain⟨k,l',rfl,hk,hb,hd,ho,hA⟩:=hrel
   have HB:=hid hb
   have HD:=hid hd
   have HO:=hid ho
   have HAn:=hid hA
   have HSr:=hid (lt_of_heap hd)
   clear hb hd ho hA
   by_cases hlt:k<n
   ·obtain ⟨g,rfl⟩:=HPOS.out (by omega)
    obtain⟨p,hp⟩:∃p,l[k]? = some p:=⟨_,List.getElem?_eq_getElem (by rw[HN.out];exact hlt)⟩
    have hp':l'[k]? = some p:=(HAn.out.old k (Nat.le_refl k)).trans hp
    have HP:=hid hp'
    have hpm:=List.mem_of_getElem? hp
    obtain⟨Pe,ce,hpe,_⟩:=HEo.out p hpm
    obtain⟨ne,hne⟩:∃ne,p.1.fin.length=ne:=⟨_,rfl⟩
    rw[hne] at hpe
    have HNE:=hid hne
    have HCl:=hid (HE.out p hpm wr.drew (HB.out.trans ((zaI wr).mono HB.out.size)))
    have HRg:=hid (HER.out p hpm)
    rw[hpe] at HCl
    have hcell:wr.cell? ⟨g,k*4+1,none⟩=some (.slice Pe ne ce):=by
     have e:=World.ownsRow.cells HAn.out.cO (g:=g) rfl (k*4+1) (.slice Pe ne ce) (by
      rw[show k*4+1=k*elP.s+1 from rfl,flat_get elP l' k 1 p hp' (by decide),<- hpe]
      rfl)
     rw[add_plain,Nat.zero_add] at e
     exact e
    have HG:=hid ((World.ownsRow.lt HAn.out.cO g rfl).2)
    have HAr:=hid (HAn.out.far (zaI wr))
    have i1:(0:Int)<=(k:Int):=by omega
    have i2:(k:Int)<(n:Int):=by omega
    have hw1:IntKind.i64.wrap ((k:Int)+1)=(k:Int)+1:=IntWalk.i64_in _ (by omega)
    obtain⟨c0,c1,c2,f0,f1,f2⟩:=dr_cells HD.out
    clear hp hp' hpm hpe hne
    go_wp2_with fail
    go_region_law (go_simp;go_at_call 44;refine (HCl.out).mono ?_;rintro en w6 ⟨⟨vE,rfl,hoE⟩,hbE⟩;obtain ⟨PE,cE,hvE⟩:=hoE.form;rw[HNE.out] at hvE;subst hvE;have HOE:=hid hoE;have HBE:=hid ((zaI wr).trans hbE);have HBE0:=hid hbE;obtain ⟨r0,r1,r2,s0,s1,s2⟩:=dr_cells ((((zaI wr).trans hbE).block D HSr.out).trans HD.out);have fg:=own_frozen (T:=elP) (HAn.out.far ((zaI wr).trans hbE)).cO (k*4+1);have hg6:=((((zaI wr).trans hbE).cell (p:=⟨g,k*4+1,none⟩) HG.out).trans hcell);clear hoE hbE)
    all_goals (
     have HEok:Hid (EndOk w6 w.heap.size (.slice PA nv cA) (p.1,.slice PE ne cE)):=
      ⟨own_low HOE.out (Nat.le_trans HB.out.size (Nat.le_refl _)),(fun i hi e=>by
       have h1:=(World.ownsRow.lt HOE.out i hi).1
       have h2:=(World.ownsRow.lt HO.out i e.symm).2
       have h3:wr.drew.heap.size=wr.heap.size:=rfl
       omega),HRg.out⟩
     have HCO:=hid (own_keep HAn.out.cO HBE.out)
     have HO6:=hid (own_keep HO.out HBE.out)
     have HD6:=hid ((HBE.out.block D HSr.out).trans HD.out)
     have HB6:=hid (HB.out.trans (HBE.out.mono HB.out.size))
     have HGB:=hid ((World.ownsRow.lt HAn.out.cO g rfl).1)
     clear c0 c1 c2 f0 f1 f2 r0 r1 r2 s0 s1 s2 hcell hg6 fg
     go_wp2_with fail
     go_roundw
     case rel=>
      refine⟨k+1,l'.set k (p.1,.slice PE ne cE),by go_num,hlt,HB6.out.setCell (p:=⟨g,k*4+1,none⟩) HGB.out _,?_,?_,HAn.out.step HP.out HBE.out HEok.out⟩
      ·rw[chg_set _ g (k*4+1) _ D (lt_of_heap HD6.out) (by intro e;exact own_notD HCO.out HD6.out (by decide) (k:=g) rfl (Option.some.inj e).symm)]
       exact HD6.out
      ·exact own_stay HO6.out fun i hi=>chg_set _ g (k*4+1) _ i (World.ownsRow.lt HO6.out i hi).2 (own_ne HO6.out HCO.out (by decide) hi)
     case measure=>simp[intOf];omega)
   ·obtain rfl:k=n:=by omega
    have HSe:=hid (settle_any HD.out (fun h=>HPOS.out h) HCAP.out hll)
    have HDB:Hid (w.heap.size<=D):=HSn.out
    go_wp2_with fail
    refine HSe.out.mono ?_
    rintro e w8 ⟨rfl,hd8,hb8⟩
    have HRw:=hid (Rw.but (⟨HO.out,HVR.out,HAn.out.cO,fun p hp=>by
     obtain⟨j,hj⟩:=List.getElem?_of_mem hp
     have hjl:=(List.getElem?_eq_some_iff.1 hj).1
     rw[HAn.out.len,HN.out] at hjl
     exact HAn.out.new j p hjl hj⟩:Rw wr w.heap.size _ _ vals l') HD.out hb8)
    have HB8:=hid (HB.out.trans (hb8.below HDB.out HSr.out))
    have HD8:=hid hd8
    have HF:=hid HAn.out.fst
    clear hd8 hb8
    go_wp2_with fail
    exact bodyPost_ret (v:=.pointer (some ⟨D,0,none⟩)) (by simp[results,Tryz.results113,go_sem]) rfl ⟨D,_,_,l',rfl,⟨HDB.out,HD8.out,HRw.out.vO,HRw.out.vR,HRw.out.cO,HRw.out.ok⟩,HF.out,HB8.out⟩)
end Go.Proofs.YtlappkflnlbfcaaGreatDoor.Stk
end
