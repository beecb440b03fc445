/- StackApartWalk, StabM. -/
import Derived.Test.YtlappkflnlbfcaaGreatDoorPkStkRSane
import Derived.Test.YtlappkflnlbfcaaGreatDoorPkStabAll
import Derived.StillTail
section
namespace Go.Proofs.YtlappkflnlbfcaaGreatDoor.Stk
open Go.RowKit Row9
set_option maxRecDepth 100000
set_option maxHeartbeats 8000000
set_option linter.unusedVariables false
theorem box_ne {W:World}{y:Nat}{A A':Option Addr}{n c n' c':Nat}{t:TypeId}(h:W.heap[y]? = some (.cells #[.slice A n c,.slice A' n' c'] t (0,0)))(o:Nat){k:IntKind}{x:Int}:W.cell? ⟨y,o,none⟩≠some (.int k x):=by
 rw[(zaA h o).1]
 rcases o with _ | _ | o <;> simp
theorem row_box {α:Type}{T:El α}{W:World}{y i:Nat}{u v:Value}{l:List α}{A A':Option Addr}{n c n' c':Nat}{t:TypeId}(hT:∀a,∃k x,(T.enc a)[0]? = some (.int k x))(hok:∀p,T.ok W p->T.ok (W.setCell ⟨y,i,none⟩ u) p)(h:Row T W v l)
  (hy:W.heap[y]? = some (.cells #[.slice A n c,.slice A' n' c'] t (0,0))):Row T (W.setCell ⟨y,i,none⟩ u) v l:=by
 obtain⟨⟨B,d,h1,h2,h3,h4⟩,h5⟩:=h
 refine⟨⟨B,d,h1,h2,h3,fun h0=>?_⟩,fun p hp=>hok p (h5 p hp)⟩
 obtain⟨g,off,e,hg,hB⟩:=h4 h0
 have hgy:y≠g:=by
  intro e
  subst e
  obtain⟨p,hp⟩:∃p,l[0]? = some p:=by
   cases l with
   | nil=>exact absurd rfl h0
   | cons p l=>exact ⟨p,rfl⟩
  obtain⟨k,x,hx⟩:=hT p
  exact box_ne hy _ (hB 0 p hp 0 _ hx)
 refine⟨g,off,e,by rw[zaJ];exact hg,fun j p hj i' u' hu=>?_⟩
 rw[World.cell?_setCell_other _ _ _ _ (by intro e;exact hgy (congrArg Addr.block e))]
 exact hB j p hj i' u' hu
theorem StIs.set_box {W:World}{y i:Nat}{u v:Value}{s:Stk}{A A':Option Addr}{n c n' c':Nat}{t:TypeId}(h:StIs elD W v s)(hy:W.heap[y]? = some (.cells #[.slice A n c,.slice A' n' c'] t (0,0))):StIs elD (W.setCell ⟨y,i,none⟩ u) v s:=by
 obtain⟨a,b,l,h1,h2,h3,h4⟩:=h
 have hb:∀ {v:Value} {l:List Int},Row elB W v l->Row elB (W.setCell ⟨y,i,none⟩ u) v l:=fun h=>row_box (T:=elB) (fun a=>⟨.u8,a,rfl⟩) (fun p hp=>hp) h hy
 exact⟨a,b,l,h1,hb h2,row_box (T:=elD) (fun a=>⟨.i64,a.1.op,rfl⟩) (fun p hp=>⟨hb hp.1,hp.2⟩) h3 hy,h4⟩
theorem ld_stD {W:World}{x n c m d:Nat}{P Q:Option Addr}{t:TypeId}(h:W.heap[x]? = some (.cells #[.slice P n c,.slice Q m d] t (0,0))):(Instr.loadAt 30 (.pointer (some ⟨x,0,none⟩))).run Tryz.prog W= .ok (.agg #[.slice P n c,.slice Q m d]) W:=by
 obtain⟨h0,h1⟩:=zaH h
 go_simp
end Go.Proofs.YtlappkflnlbfcaaGreatDoor.Stk
end
section
namespace Go.Proofs.YtlappkflnlbfcaaGreatDoor.Stab
open Go Go.RowKit
set_option maxRecDepth 100000
section
variable {P:Program} {hd full:Array Oper} {w0:World}
def idxB (md:Region.Mode)(ops:Array Oper):List Nat->Array Bool->Bool
 | [],L=>decide (Region.ready md ops L = [])
 | i :: r,L=>decide (Region.ready md ops L = [i]) && idxB md ops r (L.setIfInBounds i true)
theorem wpAny_of_idx {md:Region.Mode}{ops:Array Oper}{Q':Exit->Act->World->Prop}:∀ (is:List Nat) (l:List Oper) (L:Array Bool) (a:Act) (w:World),is.map (fun i=>ops[i]?)=l.map some->idxB md ops is L=true->wpList P ops Q' l a w->wpAny P md ops Q' is.length L a w
 | [],[],L,a,w,_,hB,h=>⟨by simpa [idxB] using hB,h⟩
 | [],_ :: _,_,_,_,hl,_,_=>by simp at hl
 | _ :: _,[],_,_,_,hl,_,_=>by simp at hl
 | i :: is,o :: l,L,a,w,hl,hB,h=>by
  simp only[List.map_cons,List.cons.injEq] at hl
  simp only[idxB,Bool.and_eq_true,decide_eq_true_eq] at hB
  refine⟨fun h1=>(by rw[hB.1] at h1;cases h1),fun k hk=>?_⟩
  rw[hB.1] at hk
  have hik:k=i:=by simpa using hk
  subst hik
  have hw:wpOp P ops Q' k (wpList P ops Q' l) a w:=by unfold wpOp;simp only[hl.1];exact h
  exact wpOp_mono (fun a' w' h'=>wpAny_of_idx is l _ a' w' hl.2 hB.2 h') hw
def waits (ops:Array Oper)(i j:Nat):Bool:=match ops[i]? with
 | some o=>before o j
 | none=>false
theorem getD_some {L:Array Bool}{i:Nat}{b d:Bool}(hi:i<L.size)(h:L.getD i d=b):L[i]? = some b:=by
 rw[Array.getD_eq_getD_getElem?,Array.getElem?_eq_getElem hi] at h
 rw[Array.getElem?_eq_getElem hi]
 exact congrArg some h
theorem tl_get {n j:Nat}(hj:j<n+2):((List.replicate n true ++ [false,false]).toArray)[j]? = some (decide (j<n)):=by
 rw[List.getElem?_toArray]
 by_cases h:j<n
 ·rw[List.getElem?_append_left (by simpa using h),List.getElem?_replicate,if_pos h,decide_eq_true h]
 ·rw[List.getElem?_append_right (by simpa using h),List.length_replicate,decide_eq_false h]
  have:j - n=0\/j - n=1:=by omega
  rcases this with e | e <;> rw[e] <;> rfl
def lateL (n x:Nat):Array Bool:=((List.replicate n true ++ [false,false]).toArray).setIfInBounds x false
theorem any_mix {size n x:Nat}(hS:Sound hd size)(hG:noGuardB hd=true)(hn:hd.size=n)(hg:full.size=n+2)(hpre:∀i,i<n->full[i]? = hd[i]?)(hx:x<n)
  (hw1:((List.range n).all fun j=>(j == x) || waits full n j)=true) (hw2:waits full (n+1) n=true) {S X Z:Oper} (hSo:full[n]? = some S) (hXo:full[x]? = some X) (hZo:full[n+1]? = some Z)
  (hseq:Region.seqB .any full 2 n ((List.replicate n true ++ [false,false]).toArray)=true) (hlate:idxB .any full [x,n+1] ((lateL n x).setIfInBounds n true)=true)
  {sp:List Sp} {a0:Act} (h0:a0.tmps.size=size) (hok:∀s∈sp,s.ok) (hlen:sp.length=n) {Q:Exit->Act->World->Prop}
  (hst:Steps P hd w0 a0 hd.toList sp []) (hen:Ends w0 (fun a w=>wpList P full Q [S,Z] a w) hd.toList sp a0 (fun _=>True))
  (hen2:Ends w0 (fun a w=>wpList P full Q [S,X,Z] a w) (hd.toList.eraseIdx x) (sp.eraseIdx x) a0 (fun _=>True)) :
  ∀ (fuel:Nat) (listed:Array Bool) (rem:List Nat) (a:Act) (w:World),rem.Nodup->(∀j,j∈rem↔j<n/\listed.getD j false=false)->rem.length=fuel->HeadInv .any full n listed->Inv hd sp w0 a0 listed a w->
   wpAny P .any full Q (fuel+2) listed a w:=by
 have hgd:∀ (listed:Array Bool) j,listed.size=full.size->j<full.size->listed.getD j true=listed.getD j false:=fun listed j hs hj=>by
  have:j<listed.size:=by omega
  simp[this]
 have htl:∀j,([S,Z]:List Oper)[j]? = full[n+j]?:=fun j=>by
  match j with
  | 0=>rw[Nat.add_zero,hSo];rfl
  | 1=>rw[hZo];rfl
  | j+2=>rw[Array.getElem?_eq_none (by omega)];rfl
 have htail:([S,Z]:List Oper).length=2:=rfl
 intro fuel
 induction fuel with
 | zero=>
  intro listed rem a w hnd hrem hle hH hI
  have he:rem = []:=List.eq_nil_of_length_eq_zero hle
  have hall:∀j,j<n->listed.getD j false=true:=fun j hj=>by
   cases hc:listed.getD j false with
   | true=>rfl
   | false=>
    have:j∈rem:=(hrem j).2 ⟨hj,hc⟩
    rw[he] at this
    cases this
  have hL:listed=(List.replicate n true ++ [false,false]).toArray:=by
   apply Array.ext_getElem?
   intro i
   by_cases hi:i<full.size
   ·rw[tl_get (by omega)]
    have hil:i<listed.size:=by rw[hH.size];exact hi
    by_cases hin:i<n
    ·rw[decide_eq_true hin]
     exact getD_some hil (hall i hin)
    ·rw[decide_eq_false hin]
     exact getD_some hil (hH.tail i (by omega) hi)
   ·rw[Array.getElem?_eq_none (by rw[hH.size];omega),Array.getElem?_eq_none (by simp;omega)]
  rw[Nat.zero_add,<- htail]
  refine wpAny_of_seq [S,Z] n listed a w htl (by rw[htail,hL];exact hseq) ?_
  refine ends_at hd.toList sp a0 _ hen a w hI.size hI.defers hI.below trivial (fun j p s hp hs=>?_) (fun t ht=>?_)
  ·have hp':hd[j]? = some p:=by simpa using hp
   obtain⟨d,hd',hds⟩:=hS.dst j p hp'
   have hj:j<n:=by have:=(Array.getElem?_eq_some_iff.1 hp').1;omega
   exact⟨d,hd',by rw[hI.size,h0];exact hds,hI.new j p s d hp' hs (hall j hj) hd'⟩
  ·exact hI.old t fun j p hp _=>ht j p (by simpa using hp)
 | succ fuel ih=>
  intro listed rem a w hnd hrem hle hH hI
  rw[show fuel+1+2=(fuel+2)+1 from by omega]
  obtain⟨j0,hj0⟩:∃j,j∈rem:=by
   cases rem with
   | nil=>simp at hle
   | cons x xs=>exact ⟨x,by simp⟩
  refine⟨fun hr=>?_,fun i hi=>?_⟩
  ·exfalso
   have:∀j,j ∉ rem:=by
    intro j
    induction j using Nat.strongRecOn with
    | ind j IH=>
     intro hj
     obtain⟨hlt',hun⟩:=(hrem j).1 hj
     have ho:hd[j]? = some hd[j]:=Array.getElem?_eq_getElem (by omega)
     have:j∈Region.ready .any full listed:=mem_ready.2 ⟨by rw[hgd listed j hH.size (by omega)];exact hun,_,(hpre j hlt').trans ho,fun e he hb=>by
      have hlt2:=hS.back j _ ho e he hb
      cases hc:listed.getD e.on false with
      | true=>rfl
      | false=>exact absurd ((hrem e.on).2 ⟨by omega,hc⟩) (IH e.on hlt2)⟩
     rw[hr] at this
     cases this
   exact this j0 hj0
  ·rcases Nat.lt_or_ge i n with hin | hin
   ·obtain ⟨h1,o,hof,haf⟩:=mem_ready.1 hi
    have ho:hd[i]? = some o:=(hpre i hin).symm.trans hof
    rw[hgd listed i hH.size (by omega)] at h1
    obtain⟨s,hs⟩:∃s,sp[i]? = some s:=⟨sp[i],List.getElem?_eq_getElem (by omega)⟩
    have hstep:StepOk P hd o a w s:=by
     obtain⟨env',hob,hlk⟩:=owes_at hS hd.toList sp 0 [] (by simp) hst i o s (Nat.zero_le _) ho (by simpa using hs)
     refine hob a w hI.below fun t ht=>?_
     rcases hlk t with ⟨j,p,s',_,hji,hp,hs',hd',he⟩ | ⟨hno,he⟩
     ·rw[he]
      rcases hS.looks i j o p t ho hp ht hd' with ⟨_,hbe⟩ | ⟨hij,_⟩
      ·obtain ⟨e,he,hee⟩:=Array.any_eq_true'.1 hbe
       simp only[Bool.and_eq_true,beq_iff_eq] at hee
       have:=haf e he hee.1
       rw[hee.2] at this
       exact hI.new j p s' t hp (by simpa using hs') this hd'
      ·omega
     ·rw[he]
      have hold:=hI.old t fun j p hp hl hd'=>by
       rcases hS.looks i j o p t ho hp ht hd' with ⟨hji,_⟩ | ⟨hij,hbe⟩
       ·exact hno j p (Nat.zero_le _) hji hp hd'
       ·obtain ⟨e,he,hee⟩:=Array.any_eq_true'.1 hbe
        simp only[Bool.and_eq_true,beq_iff_eq] at hee
        have:=hI.shut j p hp hl e he hee.1
        rw[hee.2,h1] at this
        cases this
      show _=_
      rw[Array.getD_eq_getD_getElem?,hold,<- Array.getD_eq_getD_getElem?]
    have his:i<listed.size:=by rw[hH.size];omega
    have next:∀v w',Below w.heap.size w w'->s.holds v w'->wpAny P .any full Q (fuel+2) (listed.setIfInBounds i true) (a.put o.dst v) w':=fun v w' hb hv=>by
     have hir:i∈rem:=(hrem i).2 ⟨hin,h1⟩
     refine ih _ (rem.erase i) _ _ (hnd.erase i) (fun j=>?_) (by rw[List.length_erase_of_mem hir];omega) (hH.set hi hin) (hI.step hS h0 hok ho hs h1 his haf hb hv)
     rw[hnd.mem_erase_iff,hrem j]
     by_cases hij:i=j
     ·subst hij
      simp[his]
     ·rw[getD_set_ne false hij]
      exact⟨fun h=>h.2,fun h=>⟨fun e=>hij e.symm,h⟩⟩
    have hgn:=noGuard_of hG ho
    have hw:∀y,Region.wanted o y=true:=fun y=>by unfold Region.wanted;rw[hgn]
    unfold wpOp
    simp only[hof]
    unfold StepOk at hstep
    rw[if_pos (hw _)] at hstep
    rw[if_pos (hw _)]
    refine .inl ?_
    unfold Oper.wp
    generalize (execOp a.eval o).run P w=r at hstep ⊢
    cases r with
    | ok x w'=>
     cases x with
     | value v=>exact next v w' hstep.1 hstep.2
     | skip=>exact next _ w' hstep.1 hstep.2
     | enter f args=>
      refine Calls.mono hstep fun e w'' hq=>?_
      obtain⟨v,rfl,hb,hv⟩:=hq
      exact next v w'' hb hv
     | row row args=>exact Rows.mono hstep fun v w'' hq=>next v w'' hq.1 hq.2
     | _=>exact hstep.elim
    | halt x w'=>exact hstep.elim
   ·
    obtain⟨h1,o,hof,haf⟩:=mem_ready.1 hi
    have hwt:∀ {k j:Nat},full[k]? = some o->waits full k j=true->listed.getD j false=true:=fun {k j} hk hw=>by
     unfold waits at hw
     rw[hk] at hw
     simp only at hw
     unfold before at hw
     obtain⟨e,he,hee⟩:=Array.any_eq_true'.1 hw
     simp only[Bool.and_eq_true,beq_iff_eq] at hee
     have:=haf e he hee.1
     rw[hee.2] at this
     exact this
    have hti:listed.getD n true=false:=hH.tail n (Nat.le_refl _) (by omega)
    have hi2:i<n+2:=by
     have:=(Array.getElem?_eq_some_iff.1 hof).1
     omega
    have hin':i=n:=by
     rcases Nat.lt_or_ge n i with h | h
     ·exfalso
      have e:i=n+1:=by omega
      subst e
      have:=hwt hof hw2
      rw[hgd listed n hH.size (by omega),this] at hti
      cases hti
     ·omega
    subst hin'
    have hall:∀j,j<i->j≠x->listed.getD j false=true:=fun j hj hjx=>by
     have:=List.all_eq_true.1 hw1 j (List.mem_range.2 hj)
     rw[Bool.or_eq_true,beq_iff_eq] at this
     rcases this with h | h
     ·exact absurd h hjx
     ·exact hwt hof h
    have hrx:∀j,j∈rem->j=x:=fun j hj=>by
     obtain⟨a1,a2⟩:=(hrem j).1 hj
     by_cases e:j=x
     ·exact e
     ·rw[hall j a1 e] at a2
      cases a2
    have hxr:listed.getD x false=false:=((hrem x).1 (by rw[<- hrx j0 hj0];exact hj0)).2
    have hf0:fuel=0:=by
     rcases rem with _ | ⟨r1,_ | ⟨r2,r⟩⟩
     ·simp at hle
     ·simpa using hle.symm
     ·exfalso
      have e1:=hrx r1 (by simp)
      have e2:=hrx r2 (by simp)
      subst e1
      subst e2
      simp at hnd
    subst hf0
    have hL:listed=lateL i x:=by
     unfold lateL
     apply Array.ext_getElem?
     intro j
     rw[Array.getElem?_setIfInBounds]
     by_cases hj:j<full.size
     ·have hil:j<listed.size:=by rw[hH.size];exact hj
      by_cases hjx:j=x
      ·subst hjx
       rw[if_pos rfl,if_pos (by simp;omega)]
       exact getD_some hil hxr
      ·rw[if_neg (fun e=>hjx e.symm),tl_get (by omega)]
       by_cases hjn:j<i
       ·rw[decide_eq_true hjn]
        exact getD_some hil (hall j hjn hjx)
       ·rw[decide_eq_false hjn]
        exact getD_some hil (hH.tail j (by omega) hj)
     ·rw[Array.getElem?_eq_none (by rw[hH.size];omega)]
      rw[if_neg (by omega),Array.getElem?_eq_none (by simp;omega)]
    have hwl:wpList P full Q [S,X,Z] a w:=by
     refine ends_at (hd.toList.eraseIdx x) (sp.eraseIdx x) a0 _ hen2 a w hI.size hI.defers hI.below trivial (fun j p s hp hs=>?_) (fun t ht=>?_)
     ·rw[List.getElem?_eraseIdx] at hp hs
      obtain⟨j',hjx,hp',hs'⟩:∃j',j'≠x/\hd[j']? = some p/\sp[j']? = some s:=by
       split at hp
       ·rename_i hlt
        rw[if_pos hlt] at hs
        exact⟨j,by omega,by simpa using hp,hs⟩
       ·rename_i hlt
        rw[if_neg hlt] at hs
        exact⟨j+1,by omega,by simpa using hp,hs⟩
      obtain⟨d,hd',hds⟩:=hS.dst j' p hp'
      have hj:j'<i:=by have:=(Array.getElem?_eq_some_iff.1 hp').1;omega
      exact⟨d,hd',by rw[hI.size,h0];exact hds,hI.new j' p s d hp' hs' (hall j' hj hjx) hd'⟩
     ·refine hI.old t fun j p hp hl=>?_
      have hjx:j≠x:=fun e=>by
       subst e
       rw[hxr] at hl
       cases hl
      rcases Nat.lt_or_ge j x with h | h
      ·exact ht j p (by rw[List.getElem?_eraseIdx,if_pos h];simpa using hp)
      ·refine ht (j - 1) p ?_
       rw[List.getElem?_eraseIdx,if_neg (by omega),show j - 1+1=j by omega]
       simpa using hp
    have hw:wpOp P full Q i (wpList P full Q [X,Z]) a w:=by unfold wpOp;simp only[hSo];exact hwl
    refine wpOp_mono (fun a' w' h'=>?_) hw
    exact wpAny_of_idx [x,i+1] [X,Z] _ a' w' (by simp[hXo,hZo]) (by rw[hL];exact hlate) h'
theorem region_mix {id:Nat}{Q:Exit->Act->World->Prop}{a:Act}{l:List Oper}(n size x:Nat)(S X Z:Oper)(sp:List Sp)(hm:P.follows .mixedOrders=true)(hB:okB (l.take n).toArray size=true)(hG:noGuardB (l.take n).toArray=true)
  (hT:(decide (l.length=n+2) && decide (x<n) && ((List.range n).all fun j=>(j == x) || waits l.toArray n j) && waits l.toArray (n+1) n && Region.seqB .any l.toArray 2 n ((List.replicate n true ++ [false,false]).toArray) && idxB .any l.toArray [x,n+1] ((lateL n x).setIfInBounds n true))=true)
  (hSo:l[n]? = some S) (hXo:l[x]? = some X) (hZo:l[n+1]? = some Z)
  (hsz:a.tmps.size=size) (hlen:sp.length=n)
  (hst:Steps P (l.take n).toArray w0 a (l.take n) sp []) (hen:Ends w0 (fun a w=>wpList P l.toArray Q [S,Z] a w) (l.take n) sp a (fun _=>True))
  (hen2:Ends w0 (fun a w=>wpList P l.toArray Q [S,X,Z] a w) ((l.take n).eraseIdx x) (sp.eraseIdx x) a (fun _=>True)):(Code.region id l.toArray true).wp P Q a w0:=by
 simp only[Bool.and_eq_true,decide_eq_true_eq] at hT
 obtain⟨⟨⟨⟨⟨hll,hx⟩,hw1⟩,hw2⟩,hseq⟩,hlate⟩:=hT
 have htk:(l.take n).length=n:=by simp;omega
 refine wp_region_any hm ?_
 have hS:=ok_of hB
 have H:=any_mix (P:=P) (full:=l.toArray) (w0:=w0) (n:=n) (x:=x) hS hG (by simpa using htk) (by simp;omega) (fun i hi=>by simp[hi]) hx hw1 hw2
  (S:=S) (X:=X) (Z:=Z) (by simpa using hSo) (by simpa using hXo) (by simpa using hZo) hseq hlate hsz (steps_ok (l.take n) sp [] hst (by omega)) hlen (Q:=Q) (by simpa using hst) (by simpa using hen) (by simpa using hen2) n (Array.replicate l.toArray.size false) (List.range n) a { w0 with drawn:=w0.drawn+1 } List.nodup_range
  (fun j=>by rw[List.mem_range,getD_replicate_false];simp) (by simp)
  ⟨by simp,fun j oj _ hl=>(by rw[getD_replicate_false] at hl;cases hl),fun t _ ht=>getD_in (by simpa using ht) (getD_replicate_false _ _)⟩
  ⟨⟨rfl,rfl,rfl,Nat.le_refl _,fun _ _=>rfl⟩,rfl,rfl,fun t _=>rfl,fun j p s t hp hs hl _=>(by rw[getD_replicate_false] at hl;cases hl),fun j p hp hl=>(by rw[getD_replicate_false] at hl;cases hl)⟩
 have e:n+2=l.toArray.size:=by simp;omega
 rw[e] at H
 exact H
end
end Go.Proofs.YtlappkflnlbfcaaGreatDoor.Stab
end
