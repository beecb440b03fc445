/- BodNst, BodTurn, BodTurnB, BodTurnC, BodTurnD. -/
import Derived.Test.YtlappkflnlbfcaaGreatDoorPkBodApp
import Derived.Test.YtlappkflnlbfcaaGreatDoorPkBodFew
import Derived.Test.YtlappkflnlbfcaaGreatDoorPkInsStab
import Derived.Test.YtlappkflnlbfcaaGreatDoorPkInsPSame
import Derived.WalkSmall
import Derived.Deep.QuietTactic
import Derived.BigQuiet
import Derived.RegionTactic
import Derived.ChangeAlike
section
namespace Go.Proofs.YtlappkflnlbfcaaGreatDoor.Bod
open Lib (hid)
open Go.RowKit Ints Typ Ins
set_option maxRecDepth 100000
set_option maxHeartbeats 2000000
set_option linter.unusedVariables false
def OwnP (e:TypeId)(w:World)(B:Nat)(v:Value)(l:List (Int×Int)):Prop:=w.ownsRow B e 2 v l.length (l.flatMap c2)
theorem ownP_nil (e:TypeId)(w:World)(B:Nat):OwnP e w B (.slice none 0 0) []:=⟨rfl,.inl ⟨rfl,rfl⟩⟩
def Chg (w w':World)(r:Option Nat):Prop:=∀k,k<w.heap.size->some k≠r->w'.heap[k]? = w.heap[k]?
theorem own_stay {w w':World}{B e s n:Nat}{v:Value}{xs:List Value}(h:w.ownsRow B e s v n xs)(hk:∀k,v.ownBlock=some k->w'.heap[k]? = w.heap[k]?):w'.ownsRow B e s v n xs:=by
 obtain⟨h1,h2⟩:=h
 refine⟨h1,?_⟩
 rcases h2 with h2 | ⟨g,cap,cur,hv,hB,hc,hr⟩
 ·exact .inl h2
 ·exact .inr ⟨g,cap,cur,hv,hB,by rw[hk g (by rw[hv];rfl)];exact hc,hr⟩
theorem own_type {w:World}{B e s n:Nat}{v:Value}{xs:List Value}(h:w.ownsRow B e s v n xs){k:Nat}(hk:v.ownBlock=some k):∃cur,w.heap[k]? = some (.cells cur e (0,0)):=by
 obtain⟨_,⟨h2,_⟩ | ⟨g,cap,cur,hv,hB,hc,_⟩⟩:=h
 ·rw[h2] at hk;cases hk
 ·rw[hv] at hk
  obtain rfl:g=k:=by simpa [Value.ownBlock] using hk
  exact⟨cur,hc⟩
theorem own_ne {w:World}{B e s n B' e' s' n':Nat}{v v':Value}{xs xs':List Value}(h:w.ownsRow B e s v n xs)(h':w.ownsRow B' e' s' v' n' xs')(hne:e≠e'){k:Nat}(hk:v.ownBlock=some k):some k≠v'.ownBlock:=by
 intro e1
 obtain⟨cur,h1⟩:=own_type h hk
 obtain⟨cur',h2⟩:=own_type h' e1.symm
 rw[h1] at h2
 simp only[Option.some.injEq,Obj.cells.injEq] at h2
 exact hne h2.2.1
theorem own_beside {w w':World}{B e s n B' e' s' n':Nat}{v v':Value}{xs xs':List Value}(h:w.ownsRow B e s v n xs)(h':w.ownsRow B' e' s' v' n' xs')(hne:e≠e')(hk:Chg w w' v'.ownBlock):w'.ownsRow B e s v n xs:=
 own_stay h fun k hkk=>hk k (World.ownsRow.lt h k hkk).2 (own_ne h h' hne hkk)
theorem own_low {w:World}{B B' e s n:Nat}{v:Value}{xs:List Value}(h:w.ownsRow B e s v n xs)(hB:B'<=B):w.ownsRow B' e s v n xs:=by
 obtain⟨h1,h2⟩:=h
 refine⟨h1,?_⟩
 rcases h2 with h2 | ⟨g,cap,cur,hv,hB,hr⟩
 ·exact .inl h2
 ·exact .inr ⟨g,cap,cur,hv,by omega,hr⟩
theorem OwnP.form {e:TypeId}{w:World}{B:Nat}{v:Value}{l:List (Int×Int)}(h:OwnP e w B v l):∃P c,v= .slice P l.length c:=by
 obtain⟨_,⟨hv,hl⟩ | ⟨g,cap,cur,hv,_⟩⟩:=h
 ·exact ⟨none,0,by rw[hv,hl]⟩
 ·exact ⟨_,_,hv⟩
theorem OwnP.shape {e:TypeId}{w:World}{B:Nat}{v:Value}{l:List (Int×Int)}(h:OwnP e w B v l){j:Nat}(hj:j<l.length):∃g c,v= .slice (some ⟨g,0,none⟩) l.length c/\l.length<=c:=by
 obtain⟨_,⟨hv,hl⟩ | ⟨g,cap,cur,hv,_,_,hle,_⟩⟩:=h
 ·omega
 ·exact ⟨g,cap,hv,hle⟩
theorem OwnP.cells {e:TypeId}{w:World}{B g n c:Nat}{l:List (Int×Int)}(h:OwnP e w B (.slice (some ⟨g,0,none⟩) n c) l){j:Nat}(hj:j<l.length):w.cell? ⟨g,j*2,none⟩=some (.int .i64 (l.getD j (0,0)).1)/\w.cell? ⟨g,j*2+1,none⟩=some (.int .i64 (l.getD j (0,0)).2):=by
 obtain⟨p,hp⟩:∃p,l[j]? = some p:=⟨_,List.getElem?_eq_getElem hj⟩
 have key:=World.ownsRow.cells h (g:=g) rfl
 have a:=flat2 l j 0 p hp (by decide)
 have b:=flat2 l j 1 p hp (by decide)
 rw[Nat.add_zero] at a
 rw[List.getD_eq_getElem?_getD,hp]
 have k0:=key (j*2) (.int .i64 p.1) (by rw[a];rfl)
 have k1:=key (j*2+1) (.int .i64 p.2) (by rw[b];rfl)
 rw[Typ.add_plain,Nat.zero_add] at k0 k1
 exact⟨k0,k1⟩
theorem OwnP.free {e:TypeId}{w:World}{B g c:Nat}{l:List (Int×Int)}(h:OwnP e w B (.slice (some ⟨g,0,none⟩) l.length c) l)(j:Nat):w.frozen? ⟨g,j,none⟩=false:=World.ownsRow.frozenAt h j
theorem set_here {α:Type}{l:List α}{i:Nat}{x:α}(h:l[i]? = some x):l.set i x=l:=by
 apply List.ext_getElem?
 intro j
 rw[List.getElem?_set]
 by_cases e:i=j
 ·subst e
  rw[if_pos rfl,if_pos (List.getElem?_eq_some_iff.1 h).1,h]
 ·rw[if_neg e]
theorem pair_set1 {l:List (Int×Int)}{j:Nat}(hj:j<l.length)(a:Int):(l.flatMap c2).set (j*2) (.int .i64 a)=(l.set j (a,(l.getD j (0,0)).2)).flatMap c2:=by
 have h:=flat2_set l j a (l.getD j (0,0)).2
 rw[if_pos hj] at h
 rw[<- h]
 have b:=flat2 l j 1 _ (List.getElem?_eq_getElem hj) (by decide)
 have e:(l.getD j (0,0))=l[j]:=by rw[List.getD_eq_getElem?_getD,List.getElem?_eq_getElem hj];rfl
 refine(set_here ?_).symm
 rw[List.getElem?_set_ne (by omega),b,e]
 rfl
theorem pair_set2 {l:List (Int×Int)}{j:Nat}(hj:j<l.length)(b:Int):(l.flatMap c2).set (j*2+1) (.int .i64 b)=(l.set j ((l.getD j (0,0)).1,b)).flatMap c2:=by
 have h:=flat2_set l j (l.getD j (0,0)).1 b
 rw[if_pos hj] at h
 rw[<- h]
 have e:(l.getD j (0,0))=l[j]:=by rw[List.getD_eq_getElem?_getD,List.getElem?_eq_getElem hj];rfl
 have a:=flat2 l j 0 _ (List.getElem?_eq_getElem hj) (by decide)
 rw[Nat.add_zero] at a
 congr 1
 refine(set_here ?_).symm
 rw[a,e]
 rfl
theorem OwnP.set1 {e:TypeId}{w:World}{B g c:Nat}{l:List (Int×Int)}(h:OwnP e w B (.slice (some ⟨g,0,none⟩) l.length c) l){j:Nat}(hj:j<l.length)(a:Int):OwnP e (w.setCell ⟨g,j*2,none⟩ (.int .i64 a)) B (.slice (some ⟨g,0,none⟩) l.length c) (l.set j (a,(l.getD j (0,0)).2)):=by
 have h1:=(World.ownsRow.stored h (j*2) (.int .i64 a)).1
 unfold OwnP
 rw[List.length_set,<- pair_set1 hj]
 exact h1
theorem OwnP.set2 {e:TypeId}{w:World}{B g c:Nat}{l:List (Int×Int)}(h:OwnP e w B (.slice (some ⟨g,0,none⟩) l.length c) l){j:Nat}(hj:j<l.length)(b:Int):OwnP e (w.setCell ⟨g,j*2+1,none⟩ (.int .i64 b)) B (.slice (some ⟨g,0,none⟩) l.length c) (l.set j ((l.getD j (0,0)).1,b)):=by
 have h1:=(World.ownsRow.stored h (j*2+1) (.int .i64 b)).1
 unfold OwnP
 rw[List.length_set,<- pair_set2 hj]
 exact h1
theorem flat2_len:∀l:List (Int×Int),(l.flatMap c2).length=l.length*2
 | []=>rfl
 | a :: l=>by rw[List.flatMap_cons,List.length_append,flat2_len l,List.length_cons];simp[c2];omega
theorem OwnP.pop {e:TypeId}{w:World}{B g cap:Nat}{l:List (Int×Int)}{x:Int×Int}(h:OwnP e w B (.slice (some ⟨g,0,none⟩) (l ++ [x]).length cap) (l ++ [x])):OwnP e w B (.slice (some ⟨g,0,none⟩) l.length cap) l:=by
 obtain⟨h1,⟨hv,hl⟩ | ⟨g',cap',cur,hv,hB,hc,hle,hm,hsz,ht⟩⟩:=h
 ·simp at hl
 ·injection hv with e1 e2 e3
  subst e3
  rw[List.length_append] at hle ht
  refine⟨flat2_len l,.inr ⟨g',cap,cur,by rw[e1],hB,hc,by simp at hle;omega,hm,hsz,?_⟩⟩
  have hlen:=flat2_len l
  have:=congrArg (List.take (l.length*2)) ht
  rw[List.take_take,List.flatMap_append,List.take_append_of_le_length (by omega),<- hlen,List.take_length,hlen,show min (l.length*2) ((l.length + [x].length)*2)=l.length*2 from by simp] at this
  exact this
theorem pmatch_info:(Tryz.prog.info? 208).map (fun i=>(i.zero,i.size,i.bytes))=some (some (.agg #[.int .i64 0,.int .i64 0]),2,16):=by kernel_rfl
theorem pbegun_info:(Tryz.prog.info? 210).map (fun i=>(i.zero,i.size,i.bytes))=some (some (.agg #[.int .i64 0,.int .i64 0]),2,16):=by kernel_rfl
theorem new2 (e:TypeId)(w:World)(p:Int×Int):∀j u,(c2 p)[j]? = some u->(w.alloc (.cells #[.int .i64 p.1,.int .i64 p.2] e)).cell? ((⟨w.heap.size,0,none⟩:Addr).add j)=some u:=by
 intro j u hu
 rw[Typ.add_plain]
 rcases j with _ | _ | j
 ·simp[c2] at hu;subst hu;simp
 ·simp[c2] at hu;subst hu;simp
 ·simp[c2] at hu
theorem wp_oneP {ops:Array Oper}{rest:List Oper}{o:Oper}{a:Act}{Q:Exit->Act->World->Prop}(e t:TypeId)(ht:Tryz.prog.underlying t=some (.slice e))(hi:(Tryz.prog.info? e).map (fun i=>(i.zero,i.size,i.bytes))=some (some (.agg #[.int .i64 0,.int .i64 0]),2,16))(w:World)(hgd:o.guard=none)(s x:Operand)
  (ho:o.op= .call { callee:=.builtin .append,args:=#[s,x],argTypes:=#[t,t] }) (B:Nat) (v:Value) (done:List (Int×Int)) (p:Int×Int) (hs:a.eval s=v) (hown:OwnP e w B v done)
  (hx:a.eval x= .slice (some ⟨w.heap.size,0,none⟩) 1 1) (hlen:done.length<=1000000) (hB:B<=w.heap.size)
  (h:∀v' w',OwnP e w' B v' (done ++ [p])->Below B w w'->Chg w w' v.ownBlock->wpList Tryz.prog ops Q rest (a.put o.dst v') w'):wpList Tryz.prog ops Q (o :: rest) a (w.alloc (.cells #[.int .i64 p.1,.int .i64 p.2] e)):=by
 obtain⟨i0,hi,hz0,hz1,hz2⟩:=info_parts hi
 refine wpList_append_own _ hgd s x t ho B e i0 (.agg #[.int .i64 0,.int .i64 0]) 2 16 ht hi hz0 hz1 hz2 rfl (by decide) v _ _ hs (World.ownsRow.alloc hown _) ⟨w.heap.size,0,none⟩ 1 1 (c2 p) hx rfl (new2 e w p) ?_ (by simp only[maxLen];omega) (by omega) (by simp;omega) ?_
 ·intro u hu
  simp only[c2,List.mem_cons,List.not_mem_nil,or_false] at hu
  rcases hu with rfl | rfl <;> rfl
 ·intro v' w' ho' hg hn
  refine h v' w' ?_ (((Below.refl _ _).alloc hB _).grown hg (by simp;omega) (fun k hk=>(World.ownsRow.lt hown k hk).1)) (fun k hk hne=>(hg.block k (by simp;omega) hne).trans (((Below.refl w.heap.size w).alloc (Nat.le_refl _) _).block k hk))
  have ho2:w'.ownsRow B e 2 v' (done ++ [p]).length ((done ++ [p]).flatMap c2):=by
   rw[List.flatMap_append,List.length_append]
   simpa using ho'
  exact ho2
def prs (l:List (Int×Nat)):List (Int×Int):=l.map fun x=>(x.1,(x.2:Int))
theorem prs_len (l:List (Int×Nat)):(prs l).length=l.length:=by simp[prs]
structure NAt (w:World) (B g:Nat) (vM vD vS:Value) (n:Nst):Prop where
 base:B<=g
 cell:w.heap[g]? = some (.cells #[vM,vD,vS] 157 (0,0))
 m:OwnP 208 w B vM n.M
 d:OwnI w B vD n.D
 s:OwnP 210 w B vS (prs n.S)
theorem NAt.lt {w:World}{B g:Nat}{vM vD vS:Value}{n:Nst}(h:NAt w B g vM vD vS n):g<w.heap.size:=(Array.getElem?_eq_some_iff.1 h.cell).1
theorem NAt.keep {w w':World}{B g:Nat}{vM vD vS:Value}{n:Nst}(h:NAt w B g vM vD vS n)(hb:Below w.heap.size w w'):NAt w' B g vM vD vS n:=
 ⟨h.base,by rw[hb.block g h.lt];exact h.cell,own_keep h.m hb,own_keep h.d hb,own_keep h.s hb⟩
theorem zaA {w:World}{g:Nat}{cur:Array Value}{e:TypeId}(h:w.heap[g]? = some (.cells cur e (0,0)))(i:Nat):w.cell? ⟨g,i,none⟩=cur[i]?/\w.frozen? ⟨g,i,none⟩=false:=by
 refine⟨?_,?_⟩
 ·simp only[World.cell?,h];rfl
 ·simp only[World.frozen?,h];simp
theorem NAt.cells {w:World}{B g:Nat}{vM vD vS:Value}{n:Nst}(h:NAt w B g vM vD vS n):w.cell? ⟨g,0,none⟩=some vM/\w.cell? ⟨g,1,none⟩=some vD/\w.cell? ⟨g,2,none⟩=some vS/\w.frozen? ⟨g,0,none⟩=false/\w.frozen? ⟨g,1,none⟩=false/\w.frozen? ⟨g,2,none⟩=false:=
 ⟨(zaA h.cell 0).1,(zaA h.cell 1).1,(zaA h.cell 2).1,(zaA h.cell 0).2,(zaA h.cell 1).2,(zaA h.cell 2).2⟩
theorem zaE {w:World}{g i:Nat}{cur:Array Value}{e:TypeId}(h:w.heap[g]? = some (.cells cur e (0,0)))(u:Value):(w.setCell ⟨g,i,none⟩ u).heap[g]? = some (.cells (cur.setIfInBounds i u) e (0,0)):=by
 simp[World.setCell,Array.getElem?_modify,h]
theorem zaJ (w:World)(p:Addr)(u:Value):(w.setCell p u).heap.size=w.heap.size:=by simp[World.setCell]
theorem chg_set (w:World)(g i:Nat)(u:Value):Chg w (w.setCell ⟨g,i,none⟩ u) (some g):=fun k hk hne=>Below.heap_setCell _ _ _ _ (by intro e;exact hne (congrArg some e))
structure NFr (w:World) (vD vD':Value) (w':World):Prop where
 size:w.heap.size<=w'.heap.size
 oth:∀k cur e f,w.heap[k]? = some (.cells cur e f)->e≠157->e≠208->e≠210->some k≠vD.ownBlock->w'.heap[k]? = w.heap[k]?
 row:vD'.ownBlock=vD.ownBlock\/∃h,vD'.ownBlock=some h/\w.heap.size<=h
theorem NFr.refl (w:World)(vD:Value):NFr w vD vD w:=⟨Nat.le_refl _,fun _ _ _ _ _ _ _ _ _=>rfl,.inl rfl⟩
theorem lt_of_heap {w:World}{k:Nat}{o:Obj}(h:w.heap[k]? = some o):k<w.heap.size:=(Array.getElem?_eq_some_iff.1 h).1
theorem NFr.trans {w w1 w2:World}{v v1 v2:Value}(h:NFr w v v1 w1)(h':NFr w1 v1 v2 w2):NFr w v v2 w2:=by
 refine⟨Nat.le_trans h.size h'.size,fun k cur e f hk h1 h2 h3 h4=>?_,?_⟩
 ·have a:=h.oth k cur e f hk h1 h2 h3 h4
  rw[<- a]
  refine h'.oth k cur e f (a.trans hk) h1 h2 h3 ?_
  rcases h.row with e1 | ⟨g,e1,hg⟩
  ·rw[e1];exact h4
  ·rw[e1]
   intro e2
   have:=lt_of_heap hk
   have:=Option.some.inj e2
   omega
 ·rcases h'.row with e1 | ⟨g,e1,hg⟩
  ·rw[e1];exact h.row
  ·exact .inr ⟨g,e1,Nat.le_trans h.size hg⟩
theorem NFr.below {w w':World}(v:Value)(h:Below w.heap.size w w'):NFr w v v w':=⟨h.size,fun k cur e f hk _ _ _ _=>h.block k (lt_of_heap hk),.inl rfl⟩
theorem far_set {w1:World}{B g i:Nat}{cur:Array Value}(hcell:w1.heap[g]? = some (.cells cur 157 (0,0)))(u:Value){e s n:Nat}{v:Value}{xs:List Value}(h1:w1.ownsRow B e s v n xs)(hne:e≠157):(w1.setCell ⟨g,i,none⟩ u).ownsRow B e s v n xs:=
 own_stay h1 fun k hk=>chg_set _ _ _ _ k (World.ownsRow.lt h1 k hk).2 fun e=>by
  obtain⟨cur,h2⟩:=own_type h1 hk
  obtain rfl:=Option.some.inj e
  rw[hcell] at h2
  simp only[Option.some.injEq,Obj.cells.injEq] at h2
  exact hne h2.2.1.symm
theorem NAt.pushM {w w1:World}{B g:Nat}{vM vD vS v':Value}{n:Nst}(h:NAt w B g vM vD vS n){M':List (Int×Int)}(ho:OwnP 208 w1 B v' M')(hb:Below B w w1)(hc:Chg w w1 vM.ownBlock):
  NAt (w1.setCell ⟨g,0,none⟩ v') B g v' vD vS ⟨M',n.D,n.S⟩/\NFr w vD vD (w1.setCell ⟨g,0,none⟩ v')/\Below B w (w1.setCell ⟨g,0,none⟩ v')/\w1.cell? ⟨g,0,none⟩=some vM/\w1.frozen? ⟨g,0,none⟩=false:=by
 have hg:some g≠vM.ownBlock:=fun e=>by
  obtain⟨cur,h1⟩:=own_type h.m e.symm
  rw[h.cell] at h1
  simp at h1
 have hcell:=(hc g h.lt hg).trans h.cell
 refine⟨⟨h.base,zaE hcell _,far_set hcell _ ho (by decide),far_set hcell _ (own_beside h.d h.m (by decide) hc) (by decide),far_set hcell _ (own_beside h.s h.m (by decide) hc) (by decide)⟩,⟨?_,fun k cur e f hk h1 h2 h3 h4=>?_,.inl rfl⟩,hb.setCell h.base _,(zaA hcell 0).1,(zaA hcell 0).2⟩
 ·rw[zaJ];exact hb.size
 ·have hk1:k<w.heap.size:=lt_of_heap hk
  rw[chg_set _ _ _ _ k (Nat.lt_of_lt_of_le hk1 hb.size) (fun e=>by obtain rfl:=Option.some.inj e;rw[h.cell] at hk;simp at hk;exact h1 hk.2.1.symm),hc k hk1 (fun e=>by obtain ⟨cur',h5⟩:=own_type h.m e.symm;rw[hk] at h5;simp at h5;exact h2 h5.2.1)]
theorem NAt.pushD {w w1:World}{B g:Nat}{vM vD vS v':Value}{n:Nst}(h:NAt w B g vM vD vS n){D':List Int}(ho:OwnI w1 B v' D')(hb:Below B w w1)(hc:Chg w w1 vD.ownBlock)(hn:v'.ownBlock=vD.ownBlock\/∃h,v'.ownBlock=some h/\w.heap.size<=h):
  NAt (w1.setCell ⟨g,1,none⟩ v') B g vM v' vS ⟨n.M,D',n.S⟩/\NFr w vD v' (w1.setCell ⟨g,1,none⟩ v')/\Below B w (w1.setCell ⟨g,1,none⟩ v')/\w1.cell? ⟨g,1,none⟩=some vD/\w1.frozen? ⟨g,1,none⟩=false:=by
 have hg:some g≠vD.ownBlock:=fun e=>by
  obtain⟨cur,h1⟩:=own_type h.d e.symm
  rw[h.cell] at h1
  simp at h1
 have hcell:=(hc g h.lt hg).trans h.cell
 refine⟨⟨h.base,zaE hcell _,far_set hcell _ (own_beside h.m h.d (by decide) hc) (by decide),far_set hcell _ ho (by decide),far_set hcell _ (own_beside h.s h.d (by decide) hc) (by decide)⟩,⟨?_,fun k cur e f hk h1 h2 h3 h4=>?_,hn⟩,hb.setCell h.base _,(zaA hcell 1).1,(zaA hcell 1).2⟩
 ·rw[zaJ];exact hb.size
 ·have hk1:k<w.heap.size:=lt_of_heap hk
  rw[chg_set _ _ _ _ k (Nat.lt_of_lt_of_le hk1 hb.size) (fun e=>by obtain rfl:=Option.some.inj e;rw[h.cell] at hk;simp at hk;exact h1 hk.2.1.symm),hc k hk1 h4]
theorem NAt.setS {w w1:World}{B g:Nat}{vM vD vS v':Value}{n:Nst}(h:NAt w B g vM vD vS n){S':List (Int×Nat)}(ho:OwnP 210 w1 B v' (prs S'))(hb:Below B w w1)(hc:Chg w w1 vS.ownBlock):
  NAt (w1.setCell ⟨g,2,none⟩ v') B g vM vD v' ⟨n.M,n.D,S'⟩/\NFr w vD vD (w1.setCell ⟨g,2,none⟩ v')/\Below B w (w1.setCell ⟨g,2,none⟩ v')/\w1.cell? ⟨g,2,none⟩=some vS/\w1.frozen? ⟨g,2,none⟩=false:=by
 have hg:some g≠vS.ownBlock:=fun e=>by
  obtain⟨cur,h1⟩:=own_type h.s e.symm
  rw[h.cell] at h1
  simp at h1
 have hcell:=(hc g h.lt hg).trans h.cell
 refine⟨⟨h.base,zaE hcell _,far_set hcell _ (own_beside h.m h.s (by decide) hc) (by decide),far_set hcell _ (own_beside h.d h.s (by decide) hc) (by decide),far_set hcell _ ho (by decide)⟩,⟨?_,fun k cur e f hk h1 h2 h3 h4=>?_,.inl rfl⟩,hb.setCell h.base _,(zaA hcell 2).1,(zaA hcell 2).2⟩
 ·rw[zaJ];exact hb.size
 ·have hk1:k<w.heap.size:=lt_of_heap hk
  rw[chg_set _ _ _ _ k (Nat.lt_of_lt_of_le hk1 hb.size) (fun e=>by obtain rfl:=Option.some.inj e;rw[h.cell] at hk;simp at hk;exact h1 hk.2.1.symm),hc k hk1 (fun e=>by obtain ⟨cur',h5⟩:=own_type h.s e.symm;rw[hk] at h5;simp at h5;exact h3 h5.2.1)]
theorem NAt.setM {w:World}{B g p m c:Nat}{vD vS:Value}{n:Nst}(h:NAt w B g (.slice (some ⟨p,0,none⟩) m c) vD vS n)(i:Nat)(u:Value){M':List (Int×Int)}(ho:OwnP 208 (w.setCell ⟨p,i,none⟩ u) B (.slice (some ⟨p,0,none⟩) m c) M'):
  NAt (w.setCell ⟨p,i,none⟩ u) B g (.slice (some ⟨p,0,none⟩) m c) vD vS ⟨M',n.D,n.S⟩/\NFr w vD vD (w.setCell ⟨p,i,none⟩ u)/\Below B w (w.setCell ⟨p,i,none⟩ u):=by
 have hc:Chg w (w.setCell ⟨p,i,none⟩ u) (Value.slice (some ⟨p,0,none⟩) m c).ownBlock:=chg_set _ _ _ _
 have hg:some g≠(Value.slice (some ⟨p,0,none⟩) m c).ownBlock:=fun e=>by
  obtain⟨cur,h1⟩:=own_type h.m e.symm
  rw[h.cell] at h1
  simp at h1
 refine⟨⟨h.base,(hc g h.lt hg).trans h.cell,ho,own_beside h.d h.m (by decide) hc,own_beside h.s h.m (by decide) hc⟩,⟨?_,fun k cur e f hk h1 h2 h3 h4=>?_,.inl rfl⟩,(Below.refl _ _).setCell (World.ownsRow.lt h.m p rfl).1 _⟩
 ·rw[zaJ];exact Nat.le_refl _
 ·exact hc k (lt_of_heap hk) (fun e=>by obtain ⟨cur',h5⟩:=own_type h.m e.symm;rw[hk] at h5;simp at h5;exact h2 h5.2.1)
theorem depth_core (op:Int)(g k:Nat)(P:Option Addr)(c:Nat)(w:World)(t5 t11:Bool)(r:Int)(hk:k<=1000000)(h5:(op == 5)=t5)(h11:(op == 11)=t11)(hr:(if t5 || t11 then (k:Int) - 1 else (k:Int))=r)(c2:w.cell? ⟨g,2,none⟩=some (.slice P k c)):
  Calls Tryz.prog 171 #[.pointer (some ⟨g,0,none⟩),.int .i64 op] w fun e w'=>e= .returned (.int .i64 r)/\w'=w:=by
 have hw:IntKind.i64.wrap ((k:Int) - 1)=(k:Int) - 1:=IntWalk.i64_in _ (by omega)
 have HR:=hid hr
 clear hr
 cases t5 with
 | true=>
  obtain rfl:(k:Int) - 1=r:=HR.out
  go_enter Tryz.func171,Tryz.ntmps171
  go_wp2_with fail
  go_ret
  exact⟨rfl,rfl⟩
 | false=>
  cases t11 with
  | true=>
   obtain rfl:(k:Int) - 1=r:=HR.out
   go_enter Tryz.func171,Tryz.ntmps171
   go_wp2_with fail
   go_ret
   exact⟨rfl,rfl⟩
  | false=>
   obtain rfl:(k:Int)=r:=HR.out
   go_enter Tryz.func171,Tryz.ntmps171
   go_wp2_with fail
   go_ret
   exact⟨rfl,rfl⟩
theorem NAt.stk {w:World}{B g:Nat}{vM vD vS:Value}{n:Nst}(h:NAt w B g vM vD vS n):∃P c,vS= .slice P n.S.length c:=by
 obtain⟨P,c,e⟩:=OwnP.form h.s
 rw[prs_len] at e
 exact⟨P,c,e⟩
theorem pdepth_any (op:Int){w:World}{B g:Nat}{vM vD vS:Value}{n:Nst}(h:NAt w B g vM vD vS n)(hl:n.S.length<=1000000):
  Calls Tryz.prog 171 #[.pointer (some ⟨g,0,none⟩),.int .i64 op] w fun e w'=>e= .returned (.int .i64 (depO op n))/\w'=w:=by
 obtain⟨P,c,e⟩:=h.stk
 refine depth_core op g n.S.length P c w (op == 5) (op == 11) _ hl rfl rfl ?_ (by rw[<- e];exact h.cells.2.2.1)
 unfold depO
 by_cases a:op=5
 ·simp[a]
 ·by_cases b:op=11
  ·simp[b]
  ·simp[a,b]
theorem turn_none (a:Int)(g:Nat)(P:Option Addr)(c:Nat)(w:World)(c2:w.cell? ⟨g,2,none⟩=some (.slice P 0 c)):
  Calls Tryz.prog 172 #[.pointer (some ⟨g,0,none⟩),.int .i64 a] w fun e w'=>e= .returned (.bool false)/\w'=w:=by
 go_enter Tryz.func172,Tryz.ntmps172
 go_wp2_with fail
 go_ret
 exact⟨rfl,rfl⟩
theorem end_none (a:Int)(g:Nat)(P:Option Addr)(c:Nat)(w:World)(c2:w.cell? ⟨g,2,none⟩=some (.slice P 0 c)):
  Calls Tryz.prog 173 #[.pointer (some ⟨g,0,none⟩),.int .i64 a] w fun e w'=>e= .returned (.bool false)/\w'=w:=by
 go_enter Tryz.func173,Tryz.ntmps173
 go_wp2_with fail
 go_ret
 exact⟨rfl,rfl⟩
theorem drewB' (w:World){B:Nat}(h:B<=w.heap.size):Below B w w.drew:=(drewB w).mono h
theorem turn_core (g p q k kk m cm cs:Nat)(op1 e1 a:Int)(w:World)(t1 t2:Bool)(ht1:(op1 != 4)=t1)(ht2:(e1 != -1)=t2)
  (c0:w.cell? ⟨g,0,none⟩=some (.slice (some ⟨p,0,none⟩) m cm)) (c2:w.cell? ⟨g,2,none⟩=some (.slice (some ⟨q,0,none⟩) (k+1) cs))
  (b1:w.cell? ⟨q,k*2,none⟩=some (.int .i64 op1)) (b2:w.cell? ⟨q,k*2+1,none⟩=some (.int .i64 (kk:Int)))
  (m1:w.cell? ⟨p,kk*2,none⟩=some (.int .i64 e1)) (fm:w.frozen? ⟨p,kk*2,none⟩=false) (hk:k<1000000) (hkk:kk<m) :
  Calls Tryz.prog 172 #[.pointer (some ⟨g,0,none⟩),.int .i64 a] w fun e w'=>∃w1,Below w.heap.size w w1/\((t1 || t2)=true->e= .returned (.bool false)/\w'=w1)/\((t1 || t2)=false->e= .returned (.bool true)/\w'=w1.setCell ⟨p,kk*2,none⟩ (.int .i64 a)):=by
 have hw:IntKind.i64.wrap (((k+1:Nat):Int) - 1)=(k:Int):=by rw[IntWalk.i64_in _ (by omega)];omega
 have h1:(0:Int)<=(k:Int):=by omega
 have h2:(k:Int)<((k+1:Nat):Int):=by omega
 have h3:(0:Int)<=(kk:Int):=by omega
 have h4:(kk:Int)<(m:Int):=by omega
 have hz:(((k+1:Nat):Int) == 0)=false:=by simp;omega
 have hw2:IntKind.i64.wrap (k:Int)=(k:Int):=IntWalk.i64_in _ (by omega)
 have hbz:=((Below.refl w.heap.size w).alloc (Nat.le_refl _) (.cells #[.int .i64 0,.int .i64 0] 210)).trans (drewB' _ (by simp))
 have c2d:=(hbz.cell (p:=⟨g,2,none⟩) (World.block_lt_of_cell? _ _ c2)).trans c2
 have b1d:=(hbz.cell (p:=⟨q,k*2,none⟩) (World.block_lt_of_cell? _ _ b1)).trans b1
 have b2d:=(hbz.cell (p:=⟨q,k*2+1,none⟩) (World.block_lt_of_cell? _ _ b2)).trans b2
 clear hbz
 go_enter Tryz.func172,Tryz.ntmps172
 go_wp2_with fail
 go_region
 have hb1:=((Below.refl w.heap.size w).alloc (Nat.le_refl _) (.cells #[.int .i64 op1,.int .i64 (kk:Int)] 210)).trans (drewB' _ (by simp))
 have z0:((w.alloc (.cells #[.int .i64 op1,.int .i64 (kk:Int)] 210)).drew).cell? ⟨w.heap.size,0,none⟩=some (.int .i64 op1):=by simp
 have z1:((w.alloc (.cells #[.int .i64 op1,.int .i64 (kk:Int)] 210)).drew).cell? ⟨w.heap.size,1,none⟩=some (.int .i64 (kk:Int)):=by simp
 have c0:=(hb1.cell (p:=⟨g,0,none⟩) (World.block_lt_of_cell? _ _ c0)).trans c0
 have fm:=(hb1.frozen (p:=⟨p,kk*2,none⟩) (World.block_lt_of_cell? _ _ m1)).trans fm
 have m1:=(hb1.cell (p:=⟨p,kk*2,none⟩) (World.block_lt_of_cell? _ _ m1)).trans m1
 have HB:=hid hb1
 clear hb1 c2d b1d b2d c2 b1 b2
 generalize ((w.alloc (.cells #[.int .i64 op1,.int .i64 (kk:Int)] 210)).drew)=W3 at *
 generalize w.heap.size=r at z0 z1 ⊢
 cases t1 with
 | true=>
  go_wp2_with fail
  go_quiet (fail)
  go_wp2_with fail
  refine bodyPost_ret (v:=.bool false) (by simp[results,Tryz.results172,go_sem]) rfl ⟨_,HB.out.trans (drewNB _ nq HB.out.size),?_,?_⟩
  ·exact fun _=>⟨rfl,rfl⟩
  ·intro h;simp at h
 | false=>
  cases t2 with
  | true=>
   go_wp2_with fail
   go_quiet (fail)
   go_wp2_with fail
   refine bodyPost_ret (v:=.bool false) (by simp[results,Tryz.results172,go_sem]) rfl ⟨_,HB.out.trans (drewNB _ nq HB.out.size),?_,?_⟩
   ·exact fun _=>⟨rfl,rfl⟩
   ·intro h;simp at h
  | false=>
   go_wp2_with fail
   go_quiet (fail)
   go_wp2_with fail
   have z1:(W3.drewN nq).drew.cell? ⟨r,1,none⟩=some (.int .i64 (kk:Int)):=z1
   have c0:(W3.drewN nq).drew.cell? ⟨g,0,none⟩=some (.slice (some ⟨p,0,none⟩) m cm):=c0
   have m1:(W3.drewN nq).drew.cell? ⟨p,kk*2,none⟩=some (.int .i64 e1):=m1
   have fm:(W3.drewN nq).drew.frozen? ⟨p,kk*2,none⟩=false:=fm
   go_region
   go_wp2_with fail
   refine bodyPost_ret (v:=.bool true) (by simp[results,Tryz.results172,go_sem]) rfl ⟨_,(HB.out.trans (drewNB _ nq HB.out.size)).trans (drewB' _ HB.out.size),?_,?_⟩
   ·intro h;simp at h
   ·exact fun _=>⟨rfl,rfl⟩
theorem end_one (g p q k kk m cm cs:Nat)(a:Int)(w:World)
  (c0:w.cell? ⟨g,0,none⟩=some (.slice (some ⟨p,0,none⟩) m cm)) (c2:w.cell? ⟨g,2,none⟩=some (.slice (some ⟨q,0,none⟩) (k+1) cs))
  (f2:w.frozen? ⟨g,2,none⟩=false) (b2:w.cell? ⟨q,k*2+1,none⟩=some (.int .i64 (kk:Int)))
  (x:Value) (m2:w.cell? ⟨p,kk*2+1,none⟩=some x) (fm:w.frozen? ⟨p,kk*2+1,none⟩=false)
  (c02:(w.setCell ⟨p,kk*2+1,none⟩ (.int .i64 a)).cell? ⟨g,0,none⟩=some (.slice (some ⟨p,0,none⟩) m cm)) (c22:(w.setCell ⟨p,kk*2+1,none⟩ (.int .i64 a)).cell? ⟨g,2,none⟩=some (.slice (some ⟨q,0,none⟩) (k+1) cs)) (f22:(w.setCell ⟨p,kk*2+1,none⟩ (.int .i64 a)).frozen? ⟨g,2,none⟩=false)
  (m1:(w.setCell ⟨p,kk*2+1,none⟩ (.int .i64 a)).cell? ⟨p,kk*2,none⟩=some (.int .i64 (-1)))
  (hk:k<1000000) (hkk:kk<m) (hcs:k+1<=cs) (hcs2:cs<=9223372036854775807) :
  Calls Tryz.prog 173 #[.pointer (some ⟨g,0,none⟩),.int .i64 a] w fun e w'=>e= .returned (.bool true)/\w'=(w.setCell ⟨p,kk*2+1,none⟩ (.int .i64 a)).setCell ⟨g,2,none⟩ (.slice (some ⟨q,0,none⟩) k cs):=by
 have hw:IntKind.i64.wrap (((k+1:Nat):Int) - 1)=(k:Int):=by rw[IntWalk.i64_in _ (by omega)];omega
 have h1:(0:Int)<=(k:Int):=by omega
 have h2:(k:Int)<((k+1:Nat):Int):=by omega
 have h3:(0:Int)<=(kk:Int):=by omega
 have h4:(kk:Int)<(m:Int):=by omega
 have h5:(k:Int)<=(cs:Int):=by omega
 have hz:(((k+1:Nat):Int) == 0)=false:=by simp;omega
 go_enter Tryz.func173,Tryz.ntmps173
 go_wp2_with fail
 go_ret
 exact⟨rfl,rfl⟩
theorem end_two (g p q k kk t m cm cs:Nat)(a:Int)(w:World)
  (c0:w.cell? ⟨g,0,none⟩=some (.slice (some ⟨p,0,none⟩) m cm)) (c2:w.cell? ⟨g,2,none⟩=some (.slice (some ⟨q,0,none⟩) (k+1) cs))
  (b2:w.cell? ⟨q,k*2+1,none⟩=some (.int .i64 (kk:Int)))
  (x:Value) (m2:w.cell? ⟨p,kk*2+1,none⟩=some x) (fm:w.frozen? ⟨p,kk*2+1,none⟩=false)
  (c02:(w.setCell ⟨p,kk*2+1,none⟩ (.int .i64 a)).cell? ⟨g,0,none⟩=some (.slice (some ⟨p,0,none⟩) m cm))
  (m1:(w.setCell ⟨p,kk*2+1,none⟩ (.int .i64 a)).cell? ⟨p,kk*2,none⟩=some (.int .i64 (t:Int)))
  (y:Value) (m3:(w.setCell ⟨p,kk*2+1,none⟩ (.int .i64 a)).cell? ⟨p,t*2+1,none⟩=some y) (fm3:(w.setCell ⟨p,kk*2+1,none⟩ (.int .i64 a)).frozen? ⟨p,t*2+1,none⟩=false)
  (c23:((w.setCell ⟨p,kk*2+1,none⟩ (.int .i64 a)).setCell ⟨p,t*2+1,none⟩ (.int .i64 a)).cell? ⟨g,2,none⟩=some (.slice (some ⟨q,0,none⟩) (k+1) cs)) (f23:((w.setCell ⟨p,kk*2+1,none⟩ (.int .i64 a)).setCell ⟨p,t*2+1,none⟩ (.int .i64 a)).frozen? ⟨g,2,none⟩=false)
  (hk:k<1000000) (hkk:kk<m) (htm:t<m) (hcs:k+1<=cs) (hcs2:cs<=9223372036854775807) :
  Calls Tryz.prog 173 #[.pointer (some ⟨g,0,none⟩),.int .i64 a] w fun e w'=>e= .returned (.bool true)/\w'=((w.setCell ⟨p,kk*2+1,none⟩ (.int .i64 a)).setCell ⟨p,t*2+1,none⟩ (.int .i64 a)).setCell ⟨g,2,none⟩ (.slice (some ⟨q,0,none⟩) k cs):=by
 have hw:IntKind.i64.wrap (((k+1:Nat):Int) - 1)=(k:Int):=by rw[IntWalk.i64_in _ (by omega)];omega
 have h1:(0:Int)<=(k:Int):=by omega
 have h2:(k:Int)<((k+1:Nat):Int):=by omega
 have h3:(0:Int)<=(kk:Int):=by omega
 have h4:(kk:Int)<(m:Int):=by omega
 have h5:(k:Int)<=(cs:Int):=by omega
 have h6:(0:Int)<=(t:Int):=by omega
 have h7:(t:Int)<(m:Int):=by omega
 have hz:(((k+1:Nat):Int) == 0)=false:=by simp;omega
 have hn:((t:Int) != -1)=true:=by simp
 go_enter Tryz.func173,Tryz.ntmps173
 go_wp2_with fail
 go_ret
 exact⟨rfl,rfl⟩
def NTold (B g:Nat)(vD:Value)(r:Option Nst)(w:World)(e:Ending)(w':World):Prop:=∃vM' vD' vS' n1,e= .returned (.bool r.isSome)/\(∀m,r=some m->n1=m)/\NAt w' B g vM' vD' vS' n1/\NFr w vD vD' w'/\Below B w w'
theorem prs_top {S0:List (Int×Nat)}{x:Int×Nat}:(prs (S0 ++ [x])).getD S0.length (0,0)=(x.1,(x.2:Int)):=by
 have:prs (S0 ++ [x])=prs S0 ++ [(x.1,(x.2:Int))]:=by simp[prs]
 rw[this,<- prs_len S0]
 exact getD_app2
theorem NAt.top {w:World}{B g:Nat}{vM vD vS:Value}{n:Nst}(h:NAt w B g vM vD vS n){S0:List (Int×Nat)}{x:Int×Nat}(hS:n.S=S0 ++ [x]):∃q c,vS= .slice (some ⟨q,0,none⟩) (S0.length+1) c/\S0.length+1<=c/\c<=9223372036854775807/\w.cell? ⟨q,S0.length*2,none⟩=some (.int .i64 x.1)/\w.cell? ⟨q,S0.length*2+1,none⟩=some (.int .i64 (x.2:Int)):=by
 have hs:=h.s
 rw[hS] at hs
 have hl:(prs (S0 ++ [x])).length=S0.length+1:=by simp[prs]
 obtain⟨q,c,rfl,hc⟩:=OwnP.shape hs (j:=S0.length) (by omega)
 have hmx:c<=9223372036854775807:=by
  obtain⟨_,⟨hv,_⟩ | ⟨g',cap,cur,hv,_,_,_,hm,_⟩⟩:=hs
  ·cases hv
  ·injection hv with e1 e2 e3
   subst e3
   unfold maxLen at hm
   omega
 have hcl:=OwnP.cells hs (j:=S0.length) (by omega)
 rw[prs_top] at hcl
 rw[hl] at hc ⊢
 exact⟨q,c,rfl,hc,hmx,hcl.1,hcl.2⟩
theorem NAt.mat {w:World}{B g:Nat}{vM vD vS:Value}{n:Nst}(h:NAt w B g vM vD vS n){k:Nat}(hk:k<n.M.length):∃p c,vM= .slice (some ⟨p,0,none⟩) n.M.length c:=by
 obtain⟨p,c,e,_⟩:=OwnP.shape h.m hk
 exact⟨p,c,e⟩
theorem NAt.no {w:World}{B g:Nat}{vM vD vS:Value}{n:Nst}(h:NAt w B g vM vD vS n):NTold B g vD none w (.returned (.bool false)) w:=⟨vM,vD,vS,n,rfl,(fun m hm=>by cases hm),h,NFr.refl _ _,Below.refl _ _⟩
theorem last_split {α:Type}{l:List α}{x:α}(h:l.getLast? = some x):l=l.dropLast ++ [x]:=by
 obtain⟨hne,e⟩:=List.getLast?_eq_some_iff.1 h
 rw[e]
 simp
theorem pturn_any (a:Nat){w:World}{B g:Nat}{vM vD vS:Value}{n:Nst}(h:NAt w B g vM vD vS n)(hok:NOk n)(hl:n.S.length<=100000):
  Calls Tryz.prog 172 #[.pointer (some ⟨g,0,none⟩),.int .i64 (a:Int)] w (NTold B g vD (tkTurn a n) w):=by
 cases hx:n.S.getLast? with
 | none=>
  have e:n.S = []:=List.getLast?_eq_none_iff.1 hx
  obtain⟨P,c,hv⟩:=h.stk
  have c2:=h.cells.2.2.1
  rw[hv,e] at c2
  have et:tkTurn a n=none:=by unfold tkTurn;rw[hx]
  rw[et]
  refine(turn_none a g P c w c2).mono ?_
  rintro en w' ⟨rfl,rfl⟩
  exact h.no
 | some x=>
  have hS:=last_split hx
  have hkk:=hok.stk x (last_mem hx)
  obtain⟨q,cs,hvS,_,_,b1,b2⟩:=h.top hS
  obtain⟨p,cm,hvM⟩:=h.mat hkk
  have C:=h.cells
  have hm:=h.m
  rw[hvM] at hm
  have hc:=OwnP.cells hm hkk
  have hl2:n.S.dropLast.length<1000000:=by rw[List.length_dropLast];omega
  have et:tkTurn a n=if x.1≠4\/(n.M.getD x.2 (0,0)).1≠-1 then none else some ⟨n.M.set x.2 ((a:Int),(n.M.getD x.2 (0,0)).2),n.D,n.S⟩:=by unfold tkTurn;rw[hx]
  refine(turn_core g p q n.S.dropLast.length x.2 n.M.length cm cs x.1 (n.M.getD x.2 (0,0)).1 a w _ _ rfl rfl (by rw[<- hvM];exact C.1) (by rw[<- hvS];exact C.2.2.1) b1 b2 hc.1 (OwnP.free hm _) hl2 hkk).mono ?_
  rintro en w' ⟨w1,hb,h1,h2⟩
  cases ht:((x.1 != 4) || ((n.M.getD x.2 (0,0)).1 != -1)) with
  | true=>
   obtain⟨rfl,rfl⟩:=h1 ht
   rw[et,if_pos (by simpa using ht)]
   have hBl:B<=w.heap.size:=Nat.le_trans h.base (Nat.le_of_lt h.lt)
   exact⟨vM,vD,vS,n,rfl,(fun m hm=>by cases hm),h.keep hb,NFr.below _ hb,hb.mono hBl⟩
  | false=>
   obtain⟨rfl,rfl⟩:=h2 ht
   rw[et,if_neg (by simpa using ht)]
   have hBl:B<=w.heap.size:=Nat.le_trans h.base (Nat.le_of_lt h.lt)
   have hk:=h.keep hb
   subst hvM
   have ho:=OwnP.set1 hk.m hkk (a:Int)
   obtain⟨N1,F1,B1⟩:=hk.setM _ _ ho
   exact⟨_,vD,vS,_,rfl,fun m hm=>Option.some.inj hm,N1,(NFr.below _ hb).trans F1,(hb.mono hBl).trans B1⟩
theorem own_last {W:World}{B q k cs:Nat}{S S0:List (Int×Nat)}{x:Int×Nat}(h:OwnP 210 W B (.slice (some ⟨q,0,none⟩) (k+1) cs) (prs S))(hS:S=S0 ++ [x])(hk:k=S0.length):OwnP 210 W B (.slice (some ⟨q,0,none⟩) k cs) (prs S0):=by
 subst hS hk
 have e2:prs (S0 ++ [x])=prs S0 ++ [(x.1,(x.2:Int))]:=by simp[prs]
 have e3:(prs S0 ++ [(x.1,(x.2:Int))]).length=S0.length+1:=by simp[prs]
 rw[e2,<- e3] at h
 have hp:=OwnP.pop h
 rw[prs_len] at hp
 exact hp
theorem pend_any (a:Nat){w:World}{B g:Nat}{vM vD vS:Value}{n:Nst}(h:NAt w B g vM vD vS n)(hok:NOk n)(hl:n.S.length<=100000):
  Calls Tryz.prog 173 #[.pointer (some ⟨g,0,none⟩),.int .i64 (a:Int)] w (NTold B g vD (tkEnd a n) w):=by
 cases hx:n.S.getLast? with
 | none=>
  have e:n.S = []:=List.getLast?_eq_none_iff.1 hx
  obtain⟨P,c,hv⟩:=h.stk
  have c2:=h.cells.2.2.1
  rw[hv,e] at c2
  have et:tkEnd a n=none:=by unfold tkEnd;rw[hx]
  rw[et]
  refine(end_none a g P c w c2).mono ?_
  rintro en w' ⟨rfl,rfl⟩
  exact h.no
 | some x=>
  have hS:=last_split hx
  have hkk:=hok.stk x (last_mem hx)
  obtain⟨q,cs,hvS,hcs,hcs2,b1,b2⟩:=h.top hS
  obtain⟨p,cm,hvM⟩:=h.mat hkk
  subst hvM hvS
  have C:=h.cells
  have hc:=OwnP.cells h.m hkk
  have hl2:n.S.dropLast.length<1000000:=by rw[List.length_dropLast];omega
  have et:tkEnd a n=some ⟨endM a x.2 n.M,n.D,n.S.dropLast⟩:=by unfold tkEnd;rw[hx]
  obtain⟨N1,F1,B1⟩:=h.setM _ _ (OwnP.set2 h.m hkk (a:Int))
  have C1:=N1.cells
  have hkk1:x.2<(n.M.set x.2 ((n.M.getD x.2 (0,0)).1,(a:Int))).length:=by rw[List.length_set];exact hkk
  have hc1:=(OwnP.cells N1.m hkk1).1
  have e1:((n.M.set x.2 ((n.M.getD x.2 (0,0)).1,(a:Int))).getD x.2 (0,0)).1=(n.M.getD x.2 (0,0)).1:=by
   rw[getD_setI,if_pos ⟨rfl,hkk⟩]
  simp only at hc1
  rw[e1] at hc1
  have hpop:∀ {W:World} {vM' vD':Value} {n':Nst},NAt W B g vM' vD' (.slice (some ⟨q,0,none⟩) (n.S.dropLast.length+1) cs) n'->n'.S=n.S->OwnP 210 W B (.slice (some ⟨q,0,none⟩) n.S.dropLast.length cs) (prs n.S.dropLast):=fun {W vM' vD' n'} hN hSS=>by
   exact own_last (hSS ▸ hN.s) hS rfl
  by_cases hne:(n.M.getD x.2 (0,0)).1 = -1
  ·rw[hne] at hc1
   refine(end_one g p q n.S.dropLast.length x.2 n.M.length cm cs a w C.1 C.2.2.1 C.2.2.2.2.2 b2 _ hc.2 (OwnP.free h.m _) C1.1 C1.2.2.1 C1.2.2.2.2.2 hc1 hl2 hkk hcs hcs2).mono ?_
   rintro en w' ⟨rfl,rfl⟩
   obtain⟨N2,F2,B2,_,_⟩:=N1.setS (hpop N1 rfl) (Below.refl _ _) (fun _ _ _=>rfl)
   refine⟨_,vD,_,_,by rw[et];rfl,fun m hm=>?_,N2,F1.trans F2,B1.trans B2⟩
   rw[et] at hm
   rw[<- Option.some.inj hm]
   unfold endM
   rw[if_pos hne]
  ·obtain ⟨t,ht⟩:∃t:Nat,(n.M.getD x.2 (0,0)).1=(t:Int):=by
    rcases hok.fst _ (getD_mem (0,0) hkk) with e | e
    ·exact absurd e hne
    ·exact ⟨(n.M.getD x.2 (0,0)).1.toNat,by omega⟩
   have htm:t<n.M.length:=by
    rcases hok.fst _ (getD_mem (0,0) hkk) with e | e
    ·exact absurd e hne
    ·omega
   have htm1:t<(n.M.set x.2 ((n.M.getD x.2 (0,0)).1,(a:Int))).length:=by rw[List.length_set];exact htm
   have hct:=(OwnP.cells N1.m htm1).2
   have hlen1:(n.M.set x.2 ((n.M.getD x.2 (0,0)).1,(a:Int))).length=n.M.length:=List.length_set
   have hm1:=N1.m
   simp only at hm1
   have ho2:OwnP 208 ((w.setCell ⟨p,x.2*2+1,none⟩ (.int .i64 a)).setCell ⟨p,t*2+1,none⟩ (.int .i64 a)) B (.slice (some ⟨p,0,none⟩) n.M.length cm) ((n.M.set x.2 ((n.M.getD x.2 (0,0)).1,(a:Int))).set t (((n.M.set x.2 ((n.M.getD x.2 (0,0)).1,(a:Int))).getD t (0,0)).1,(a:Int))):=by
    have h3:=hm1
    rw[<- hlen1] at h3 ⊢
    exact OwnP.set2 h3 htm1 (a:Int)
   obtain⟨N2,F2,B2⟩:=N1.setM _ _ ho2
   have C2:=N2.cells
   rw[ht] at hc1
   have hfm:(w.setCell ⟨p,x.2*2+1,none⟩ (.int .i64 a)).frozen? ⟨p,t*2+1,none⟩=false:=by
    have h3:=hm1
    rw[<- hlen1] at h3
    exact OwnP.free h3 _
   refine(end_two g p q n.S.dropLast.length x.2 t n.M.length cm cs a w C.1 C.2.2.1 b2 _ hc.2 (OwnP.free h.m _) C1.1 hc1 _ hct hfm C2.2.2.1 C2.2.2.2.2.2 hl2 hkk htm hcs hcs2).mono ?_
   rintro en w' ⟨rfl,rfl⟩
   obtain⟨N3,F3,B3,_,_⟩:=N2.setS (hpop N2 rfl) (Below.refl _ _) (fun _ _ _=>rfl)
   refine⟨_,vD,_,_,by rw[et];rfl,fun m hm=>?_,N3,(F1.trans F2).trans F3,(B1.trans B2).trans B3⟩
   rw[et] at hm
   rw[<- Option.some.inj hm]
   unfold endM
   rw[if_neg hne,ht,Int.toNat_natCast]
end Go.Proofs.YtlappkflnlbfcaaGreatDoor.Bod
end
