/- StabAll. -/
import Derived.Orders
import Derived.Below
import Derived.Tactics
import Derived.StillTail
section
namespace Go.Proofs.YtlappkflnlbfcaaGreatDoor.Stab
open Go Go.RowKit
inductive Sp where
 | is (c:Value)
 | fits (R:Value->World->Prop)
def Sp.holds:Sp->Value->World->Prop
 | .is c,v,_=>v=c
 | .fits R,v,w=>R v w
def Stays (R:Value->World->Prop):Prop:=∀v w w',R v w->Below w.heap.size w w'->R v w'
def Sp.ok:Sp->Prop
 | .is _=>True
 | .fits R=>Stays R
theorem Sp.stays {s:Sp}(h:s.ok){v:Value}{w w':World}(hv:s.holds v w)(hb:Below w.heap.size w w'):s.holds v w':=by
 cases s with
 | is c=>exact hv
 | fits R=>exact h v w w' hv hb
def YieldOk (P:Program)(w:World)(R:Value->World->Prop):Result Next->Prop
 | .ok (.value v) w'=>Below w.heap.size w w'/\R v w'
 | .ok .skip w'=>Below w.heap.size w w'/\R undef w'
 | .ok (.enter f args) w'=>Calls P f args w' fun e w''=>∃v,e= .returned v/\Below w.heap.size w w''/\R v w''
 | .ok (.row row args) w'=>Rows P row args w' fun v w''=>Below w.heap.size w w''/\R v w''
 | _=>False
def StepOk (P:Program)(ops:Array Oper)(o:Oper)(a:Act)(w:World)(s:Sp):Prop:=
 if Region.wanted o (yielded ops a.tmps)=true then YieldOk P w s.holds ((execOp a.eval o).run P w) else s.holds undef w
def look (a0:Act):List (Tmp×Sp)->Tmp->Sp
 | [],t=>.is (a0.tmps.getD t undef)
 | (d,s) :: r,t=>if t=d then s else look a0 r t
def Owes (P:Program)(ops:Array Oper)(w0:World)(a0:Act)(env:List (Tmp×Sp))(o:Oper)(s:Sp):Prop:=
 ∀ (A:Act) (w:World),Below w0.heap.size w0 w->(∀t∈o.looksAt ops,(look a0 env t).holds (A.tmps.getD t undef) w)->StepOk P ops o A w s
def dstOf (o:Oper):Tmp:=o.dst.getD 0
def Steps (P:Program)(ops:Array Oper)(w0:World)(a0:Act):List Oper->List Sp->List (Tmp×Sp)->Prop
 | [],_,_=>True
 | _ :: _,[],_=>False
 | o :: os,s :: ss,env=>Owes P ops w0 a0 env o s/\s.ok/\Steps P ops w0 a0 os ss ((dstOf o,s) :: env)
def Ends (w0:World)(Q:Act->World->Prop):List Oper->List Sp->Act->(World->Prop)->Prop
 | [],_,a,I=>∀w,Below w0.heap.size w0 w->I w->Q a w
 | _ :: _,[],_,_=>False
 | o :: os,.is c :: ss,a,I=>Ends w0 Q os ss (a.put o.dst c) I
 | o :: os,.fits R :: ss,a,I=>∀v,Ends w0 Q os ss (a.put o.dst v) (fun w=>R v w/\I w)
def before (o:Oper)(j:Nat):Bool:=o.after.any fun e=>Region.binds .any e && e.on == j
def pairB (ops:Array Oper)(i j:Nat)(o p:Oper):Bool:=
 (decide (i=j) || o.dst != p.dst) && (!((o.looksAt ops).any fun t=>p.dst == some t) || (decide (j<i) && before o j) || (decide (i<j) && before p i))
def rowB (ops:Array Oper)(size i:Nat)(o:Oper):Bool:=
 (match o.dst with | none=>false | some d=>decide (d<size)) &&
 (match o.op with | .select _ _=>false | _=>true) &&
 (o.after.all fun e=>!Region.binds .any e || decide (e.on<i)) &&
 (List.range ops.size).all fun j=>match ops[j]? with | none=>false | some p=>pairB ops i j o p
def okB (ops:Array Oper)(size:Nat):Bool:=(List.range ops.size).all fun i=>match ops[i]? with | none=>false | some o=>rowB ops size i o
structure Sound (ops:Array Oper) (size:Nat):Prop where
 dst:∀ (i:Nat) (o:Oper),ops[i]? = some o->∃d,o.dst=some d/\d<size
 sel:∀ (i:Nat) (o:Oper) cs b,ops[i]? = some o->o.op≠.select cs b
 back:∀ (i:Nat) (o:Oper),ops[i]? = some o->∀e∈o.after,Region.binds .any e=true->e.on<i
 apart:∀ (i j:Nat) (o p:Oper),ops[i]? = some o->ops[j]? = some p->i≠j->o.dst≠p.dst
 looks:∀ (i j:Nat) (o p:Oper) t,ops[i]? = some o->ops[j]? = some p->t∈o.looksAt ops->p.dst=some t->(j<i/\before o j=true)\/(i<j/\before p i=true)
theorem ok_of {ops:Array Oper}{size:Nat}(h:okB ops size=true):Sound ops size:=by
 have hi:∀ (i:Nat) (o:Oper),ops[i]? = some o->i<ops.size:=fun i o ho=>(Array.getElem?_eq_some_iff.1 ho).1
 have H:∀ (i:Nat) (o:Oper),ops[i]? = some o->rowB ops size i o=true:=fun i o ho=>by
  have:=(List.all_eq_true.1 h) i (List.mem_range.2 (hi i o ho))
  rw[ho] at this
  exact this
 have H2:∀ (i j:Nat) (o p:Oper),ops[i]? = some o->ops[j]? = some p->pairB ops i j o p=true:=fun i j o p ho hp=>by
  have h1:=H i o ho
  simp only[rowB,Bool.and_eq_true] at h1
  have:=(List.all_eq_true.1 h1.2) j (List.mem_range.2 (hi j p hp))
  rw[hp] at this
  exact this
 refine⟨fun i o ho=>?_,fun i o cs b ho hs=>?_,fun i o ho e he hb=>?_,fun i j o p ho hp hne hd=>?_,fun i j o p t ho hp ht hd=>?_⟩
 ·have h1:=H i o ho
  simp only[rowB,Bool.and_eq_true] at h1
  have h1:=h1.1.1.1
  cases hd:o.dst with
  | none=>rw[hd] at h1;cases h1
  | some d=>rw[hd] at h1;exact⟨d,rfl,of_decide_eq_true h1⟩
 ·have h1:=H i o ho
  simp only[rowB,Bool.and_eq_true] at h1
  have h1:=h1.1.1.2
  rw[hs] at h1
  cases h1
 ·have h1:=H i o ho
  simp only[rowB,Bool.and_eq_true] at h1
  have:=(Array.all_eq_true_iff_forall_mem.1 h1.1.2) e he
  simpa [hb] using this
 ·have h1:=H2 i j o p ho hp
  simp[pairB,hne,hd] at h1
 ·have h1:=H2 i j o p ho hp
  simp only[pairB,Bool.and_eq_true,Bool.or_eq_true,Bool.not_eq_true',decide_eq_true_eq] at h1
  rcases h1.2 with (h2 | h2) | h2
  ·have:((o.looksAt ops).any fun t=>p.dst == some t)=true:=List.any_eq_true.2 ⟨t,ht,by simp[hd]⟩
   rw[this] at h2
   cases h2
  ·exact .inl h2
  ·exact .inr h2
section
variable {P:Program} {ops:Array Oper} {w0:World}
theorem put_same {a:Act}{d:Tmp}{v:Value}(h:d<a.tmps.size):(a.put (some d) v).tmps[d]? = some v:=by
 simp[Act.put,h]
theorem put_other {a:Act}{d t:Tmp}{v:Value}(h:d≠t):(a.put (some d) v).tmps[t]? = a.tmps[t]?:=by
 simp[Act.put,Array.getElem?_setIfInBounds_ne h]
theorem put_size {a:Act}{d:Option Tmp}{v:Value}:(a.put d v).tmps.size=a.tmps.size:=by
 cases d <;> simp[Act.put]
theorem put_defers {a:Act}{d:Option Tmp}{v:Value}:(a.put d v).defers=a.defers:=by
 cases d <;> rfl
theorem owes_at {size:Nat}(hS:Sound ops size){a0:Act}:∀ (l:List Oper) (ss:List Sp) (k:Nat) (env:List (Tmp×Sp)),(∀j,l[j]? = ops[k+j]?)->Steps P ops w0 a0 l ss env->
  ∀ (i:Nat) (o:Oper) (s:Sp),k<=i->ops[i]? = some o->ss[i - k]? = some s->∃env',Owes P ops w0 a0 env' o s/\
   ∀t,(∃ (j:Nat) (p:Oper) (s':Sp),k<=j/\j<i/\ops[j]? = some p/\ss[j - k]? = some s'/\p.dst=some t/\look a0 env' t=s')\/
    ((∀ (j:Nat) (p:Oper),k<=j->j<i->ops[j]? = some p->p.dst≠some t)/\look a0 env' t=look a0 env t)
 | [],ss,k,env,hl,_,i,o,s,hki,ho,_=>by
  have:=hl (i - k)
  rw[show k+(i - k)=i from by omega,ho] at this
  cases this
 | _ :: _,[],_,_,_,hst,_,_,_,_,_,_=>hst.elim
 | o' :: os,s' :: ss,k,env,hl,hst,i,o,s,hki,ho,hs=>by
  have h0:ops[k]? = some o':=by simpa using (hl 0).symm
  by_cases hik:i=k
  ·subst hik
   rw[h0] at ho
   injection ho with ho
   subst ho
   have es:s'=s:=by simpa using hs
   subst es
   exact⟨env,hst.1,fun t=>.inr ⟨fun j p h1 h2 _=>by omega,rfl⟩⟩
  ·obtain ⟨d,hd,hds⟩:=hS.dst k o' h0
   have hsub:∀j,k+1<=j->(s' :: ss)[j - k]? = ss[j - (k+1)]?:=fun j hj=>by
    rw[show j - k=(j - (k+1))+1 from by omega];rfl
   have hl':∀j,os[j]? = ops[(k+1)+j]?:=fun j=>by
    have:=hl (j+1)
    rw[show k+1+j=k+(j+1) from by omega]
    simpa using this
   obtain⟨env',h1,h2⟩:=owes_at hS os ss (k+1) _ hl' hst.2.2 i o s (by omega) ho (by rw[<- hsub i (by omega)];exact hs)
   refine⟨env',h1,fun t=>?_⟩
   have e:dstOf o'=d:=by simp[dstOf,hd]
   rcases h2 t with ⟨j,p,s'',g1,g2,g3,g4,g5,g6⟩ | ⟨g1,g2⟩
   ·exact .inl ⟨j,p,s'',by omega,g2,g3,by rw[hsub j g1];exact g4,g5,g6⟩
   ·rw[e] at g2
    by_cases htd:t=d
    ·refine .inl ⟨k,o',s',Nat.le_refl _,by omega,h0,by simp,by rw[hd,htd],?_⟩
     rw[g2]
     simp[look,htd]
    ·refine .inr ⟨fun j p q1 q2 q3=>?_,?_⟩
     ·by_cases hjk:j=k
      ·subst hjk
       rw[h0] at q3
       injection q3 with q3
       subst q3
       rw[hd]
       intro e
       injection e with e
       exact htd e.symm
      ·exact g1 j p (by omega) q2 q3
     ·rw[g2]
      simp[look,htd]
theorem ends_at {Q:Act->World->Prop}:∀ (l:List Oper) (ss:List Sp) (aL:Act) (I:World->Prop),Ends w0 Q l ss aL I->∀ (a:Act) (w:World),a.tmps.size=aL.tmps.size->a.defers=aL.defers->Below w0.heap.size w0 w->I w->
  (∀ (j:Nat) (p:Oper) (s:Sp),l[j]? = some p->ss[j]? = some s->∃d,p.dst=some d/\d<a.tmps.size/\s.holds (a.tmps.getD d undef) w)->
  (∀t,(∀ (j:Nat) (p:Oper),l[j]? = some p->p.dst≠some t)->a.tmps[t]? = aL.tmps[t]?)->Q a w
 | [],ss,aL,I,h,a,w,hsz,hdf,hb,hI,_,hold=>by
  have:a=aL:=by
   obtain⟨ta,da⟩:=a
   obtain⟨tb,db⟩:=aL
   have e1:ta=tb:=Array.ext_getElem? fun t=>hold t (fun j p hj=>by simp at hj)
   have e2:da=db:=hdf
   rw[e1,e2]
  subst this
  exact h w hb hI
 | o :: os,[],aL,I,h,_,_,_,_,_,_,_,_=>h.elim
 | o :: os,s :: ss,aL,I,h,a,w,hsz,hdf,hb,hI,hfa,hold=>by
  obtain⟨d,hd,hlt,hh⟩:=hfa 0 o s rfl rfl
  have hfa':∀ (j:Nat) (p:Oper) (s:Sp),os[j]? = some p->ss[j]? = some s->∃d,p.dst=some d/\d<a.tmps.size/\s.holds (a.tmps.getD d undef) w:=fun j p s h1 h2=>hfa (j+1) p s h1 h2
  have hold':∀v,v=a.tmps.getD d undef->∀t,(∀ (j:Nat) (p:Oper),os[j]? = some p->p.dst≠some t)->a.tmps[t]? = (aL.put o.dst v).tmps[t]?:=fun v hv t hno=>by
   rw[hd]
   by_cases htd:d=t
   ·subst htd
    rw[put_same (by rw[<- hsz];exact hlt),hv]
    simp[hlt]
   ·rw[put_other htd]
    refine hold t fun j p hj=>?_
    rcases j with _ | j
    ·have e:o=p:=by simpa using hj
     subst e
     rw[hd]
     intro e
     injection e with e
     exact htd e
    ·exact hno j p (by simpa using hj)
  cases s with
  | is c=>exact ends_at os ss _ I h a w (by rw[put_size];exact hsz) (by rw[put_defers];exact hdf) hb hI hfa' (hold' c hh.symm)
  | fits R=>exact ends_at os ss _ _ (h _) a w (by rw[put_size];exact hsz) (by rw[put_defers];exact hdf) hb ⟨hh,hI⟩ hfa' (hold' _ rfl)
structure Inv (ops:Array Oper) (sp:List Sp) (w0:World) (a0:Act) (listed:Array Bool) (a:Act) (w:World):Prop where
 below:Below w0.heap.size w0 w
 defers:a.defers=a0.defers
 size:a.tmps.size=a0.tmps.size
 old:∀t,(∀ (j:Nat) (p:Oper),ops[j]? = some p->listed.getD j false=true->p.dst≠some t)->a.tmps[t]? = a0.tmps[t]?
 new:∀ (j:Nat) (p:Oper) (s:Sp) t,ops[j]? = some p->sp[j]? = some s->listed.getD j false=true->p.dst=some t->s.holds (a.tmps.getD t undef) w
 shut:∀ (j:Nat) (p:Oper),ops[j]? = some p->listed.getD j false=true->∀e∈p.after,Region.binds .any e=true->listed.getD e.on false=true
theorem Inv.step {size:Nat}(hS:Sound ops size){sp:List Sp}{a0:Act}(h0:a0.tmps.size=size)(hok:∀s∈sp,s.ok){listed:Array Bool}{a:Act}{w w':World}(h:Inv ops sp w0 a0 listed a w)
  {i:Nat} {o:Oper} {s:Sp} {v:Value} (ho:ops[i]? = some o) (hs:sp[i]? = some s) (hun:listed.getD i false=false) (hi:i<listed.size) (haf:∀e∈o.after,Region.binds .any e=true->listed.getD e.on false=true)
  (hb:Below w.heap.size w w') (hv:s.holds v w'):Inv ops sp w0 a0 (listed.setIfInBounds i true) (a.put o.dst v) w':=by
 obtain⟨d,hd,hds⟩:=hS.dst i o ho
 have hset:∀j,(listed.setIfInBounds i true).getD j false=true->j=i\/listed.getD j false=true:=fun j hj=>by
  by_cases hij:i=j
  ·exact .inl hij.symm
  ·rw[getD_set_ne false hij] at hj;exact .inr hj
 have hsi:(listed.setIfInBounds i true).getD i false=true:=by simp[hi]
 refine⟨h.below.trans (hb.mono h.below.size),by rw[put_defers];exact h.defers,by rw[put_size];exact h.size,fun t ht=>?_,fun j p s' t hp hs' hl hdt=>?_,fun j p hp hl e he hbe=>?_⟩
 ·rw[hd,put_other (fun e=>ht i o ho hsi (by rw[hd,e]))]
  exact h.old t fun j p hp hl=>ht j p hp (getD_set_true hl)
 ·rcases hset j hl with rfl | hl2
  ·rw[ho] at hp
   injection hp with hp
   subst hp
   rw[hs] at hs'
   injection hs' with hs'
   subst hs'
   rw[hd] at hdt
   injection hdt with hdt
   subst hdt
   have hsm:=put_same (a:=a) (v:=v) (d:=d) (by rw[h.size,h0];exact hds)
   rw[hd,Array.getD_eq_getD_getElem?,hsm]
   exact hv
  ·have hji:j≠i:=fun e=>by subst e;rw[hun] at hl2;cases hl2
   have hne:d≠t:=fun e=>by
    have:=hS.apart j i p o hp ho hji
    rw[hd,hdt,e] at this
    exact this rfl
   rw[hd,Array.getD_eq_getD_getElem?,put_other hne,<- Array.getD_eq_getD_getElem?]
   exact Sp.stays (hok s' (List.mem_of_getElem? hs')) (h.new j p s' t hp hs' hl2 hdt) hb
 ·rcases hset j hl with rfl | hl
  ·rw[ho] at hp
   injection hp with hp
   subst hp
   exact getD_set_true (haf e he hbe)
  ·exact getD_set_true (h.shut j p hp hl e he hbe)
theorem any_of {size:Nat}(hS:Sound ops size){sp:List Sp}{a0:Act}(h0:a0.tmps.size=size)(hok:∀s∈sp,s.ok)(hlen:sp.length=ops.size){Q:Exit->Act->World->Prop}
  (hst:Steps P ops w0 a0 ops.toList sp []) (hen:Ends w0 (Q .normal) ops.toList sp a0 (fun _=>True)) :
  ∀ (fuel:Nat) (listed:Array Bool) (rem:List Nat) (a:Act) (w:World),rem.Nodup->(∀j,j∈rem↔j<ops.size/\listed.getD j false=false)->rem.length<=fuel->listed.size=ops.size->Inv ops sp w0 a0 listed a w->
   wpAny P .any ops Q fuel listed a w:=by
 have hdone:∀ (listed:Array Bool) (rem:List Nat) (a:Act) (w:World),(∀j,j∈rem↔j<ops.size/\listed.getD j false=false)->rem = []->Inv ops sp w0 a0 listed a w->Q .normal a w:=fun listed rem a w hrem he hI=>by
  have hall:∀ (j:Nat) (p:Oper),ops[j]? = some p->listed.getD j false=true:=fun j p hp=>by
   have hlt:=(Array.getElem?_eq_some_iff.1 hp).1
   cases hc:listed.getD j false with
   | true=>rfl
   | false=>
    have:j∈rem:=(hrem j).2 ⟨hlt,hc⟩
    rw[he] at this
    cases this
  refine ends_at ops.toList sp a0 _ hen a w hI.size hI.defers hI.below trivial (fun j p s hp hs=>?_) (fun t ht=>?_)
  ·have hp':ops[j]? = some p:=by simpa using hp
   obtain⟨d,hd,hds⟩:=hS.dst j p hp'
   exact⟨d,hd,by rw[hI.size,h0];exact hds,hI.new j p s d hp' hs (hall j p hp') hd⟩
  ·exact hI.old t fun j p hp _=>ht j p (by simpa using hp)
 have hgd:∀ (listed:Array Bool) j,listed.size=ops.size->j<ops.size->listed.getD j true=listed.getD j false:=fun listed j hs hj=>by
  have:j<listed.size:=by omega
  simp[this]
 intro fuel
 induction fuel with
 | zero=>
  intro listed rem a w hnd hrem hle hsz hI
  have he:rem = []:=List.eq_nil_of_length_eq_zero (by omega)
  refine⟨?_,hdone listed rem a w hrem he hI⟩
  rcases hr:Region.ready .any ops listed with _ | ⟨j,r⟩
  ·rfl
  ·have hj:j∈Region.ready .any ops listed:=by rw[hr];simp
   obtain⟨h1,o,ho,_⟩:=mem_ready.1 hj
   have hlt:=(Array.getElem?_eq_some_iff.1 ho).1
   rw[hgd listed j hsz hlt] at h1
   have:j∈rem:=(hrem j).2 ⟨hlt,h1⟩
   rw[he] at this
   cases this
 | succ fuel ih=>
  intro listed rem a w hnd hrem hle hsz hI
  refine⟨fun hr=>?_,fun i hi=>?_⟩
  ·refine hdone listed rem a w hrem (List.eq_nil_iff_forall_not_mem.2 ?_) hI
   intro j
   induction j using Nat.strongRecOn with
   | ind j IH=>
    intro hj
    obtain⟨hlt,hun⟩:=(hrem j).1 hj
    have ho:ops[j]? = some ops[j]:=Array.getElem?_eq_getElem hlt
    have:j∈Region.ready .any ops listed:=mem_ready.2 ⟨by rw[hgd listed j hsz hlt];exact hun,_,ho,fun e he hb=>by
     have hlt2:=hS.back j _ ho e he hb
     cases hc:listed.getD e.on false with
     | true=>rfl
     | false=>exact absurd ((hrem e.on).2 ⟨by omega,hc⟩) (IH e.on hlt2)⟩
    rw[hr] at this
    cases this
  ·obtain ⟨h1,o,ho,haf⟩:=mem_ready.1 hi
   have hlt:=(Array.getElem?_eq_some_iff.1 ho).1
   rw[hgd listed i hsz hlt] at h1
   obtain⟨s,hs⟩:∃s,sp[i]? = some s:=⟨sp[i],List.getElem?_eq_getElem (by omega)⟩
   have hstep:StepOk P ops o a w s:=by
    obtain⟨env',hob,hlk⟩:=owes_at hS ops.toList sp 0 [] (by simp) hst i o s (Nat.zero_le _) ho (by simpa using hs)
    refine hob a w hI.below fun t ht=>?_
    rcases hlk t with ⟨j,p,s',_,hji,hp,hs',hd,he⟩ | ⟨hno,he⟩
    ·rw[he]
     rcases hS.looks i j o p t ho hp ht hd with ⟨_,hbe⟩ | ⟨hij,_⟩
     ·obtain ⟨e,he,hee⟩:=Array.any_eq_true'.1 hbe
      simp only[Bool.and_eq_true,beq_iff_eq] at hee
      have:=haf e he hee.1
      rw[hee.2] at this
      exact hI.new j p s' t hp (by simpa using hs') this hd
     ·omega
    ·rw[he]
     have hold:=hI.old t fun j p hp hl hd=>by
      rcases hS.looks i j o p t ho hp ht hd with ⟨hji,_⟩ | ⟨hij,hbe⟩
      ·exact hno j p (Nat.zero_le _) hji hp hd
      ·obtain ⟨e,he,hee⟩:=Array.any_eq_true'.1 hbe
       simp only[Bool.and_eq_true,beq_iff_eq] at hee
       have:=hI.shut j p hp hl e he hee.1
       rw[hee.2,h1] at this
       cases this
     show _=_
     rw[Array.getD_eq_getD_getElem?,hold,<- Array.getD_eq_getD_getElem?]
   have next:∀v w',Below w.heap.size w w'->s.holds v w'->wpAny P .any ops Q fuel (listed.setIfInBounds i true) (a.put o.dst v) w':=fun v w' hb hv=>by
    have hir:i∈rem:=(hrem i).2 ⟨hlt,h1⟩
    refine ih _ (rem.erase i) _ _ (hnd.erase i) (fun j=>?_) (by rw[List.length_erase_of_mem hir];omega) (by simpa using hsz) (hI.step hS h0 hok ho hs h1 (by omega) haf hb hv)
    rw[hnd.mem_erase_iff,hrem j]
    by_cases hij:i=j
    ·subst hij
     have:i<listed.size:=by omega
     simp[this]
    ·rw[getD_set_ne false hij]
     exact⟨fun h=>h.2,fun h=>⟨fun e=>hij e.symm,h⟩⟩
   unfold wpOp
   simp only[ho]
   unfold StepOk at hstep
   split
   ·rename_i hw
    rw[if_pos hw] at hstep
    refine .inl ?_
    unfold Oper.wp
    generalize (execOp a.eval o).run P w=r at hstep ⊢
    cases r with
    | ok n w'=>
     cases n with
     | value v=>exact next v w' hstep.1 hstep.2
     | skip=>exact next _ w' hstep.1 hstep.2
     | enter f args=>
      refine Calls.mono hstep fun e w'' hq=>?_
      obtain⟨v,rfl,hb,hv⟩:=hq
      exact next v w'' hb hv
     | row row args=>exact Rows.mono hstep fun v w'' hq=>next v w'' hq.1 hq.2
     | _=>exact hstep.elim
    | halt x w'=>exact hstep.elim
   ·rename_i hw
    rw[if_neg hw] at hstep
    exact next _ w (Below.refl _ _) hstep
theorem steps_ok {a0:Act}:∀ (l:List Oper) (ss:List Sp) (env:List (Tmp×Sp)),Steps P ops w0 a0 l ss env->ss.length=l.length->∀s∈ss,s.ok
 | [],ss,_,_,hl=>by
  obtain rfl:ss = []:=List.eq_nil_of_length_eq_zero (by simpa using hl)
  simp
 | _ :: _,[],_,h,_=>h.elim
 | o :: os,s :: ss,env,h,hl=>by
  intro x hx
  rcases List.mem_cons.1 hx with rfl | hx
  ·exact h.2.1
  ·exact steps_ok os ss _ h.2.2 (by simpa using hl) x hx
theorem region {id:Nat}{Q:Exit->Act->World->Prop}{a:Act}{l:List Oper}(size:Nat)(sp:List Sp)(hm:P.follows .mixedOrders=true)(hB:okB l.toArray size=true)(hsz:a.tmps.size=size)(hlen:sp.length=l.length)
  (hst:Steps P l.toArray w0 a l sp []) (hen:Ends w0 (Q .normal) l sp a (fun _=>True)):(Code.region id l.toArray true).wp P Q a w0:=by
 refine wp_region_any hm ?_
 have hS:=ok_of hB
 have hlen':sp.length=l.toArray.size:=by simpa using hlen
 refine any_of (w0:=w0) hS hsz (steps_ok l sp [] hst hlen) hlen' (by simpa using hst) (by simpa using hen) _ _ (List.range l.toArray.size) a _ List.nodup_range (fun j=>?_) (by simp) (by simp) ?_
 ·simp
  intro hj
  simp[hj]
 ·refine ⟨⟨rfl,rfl,rfl,Nat.le_refl _,fun _ _=>rfl⟩,rfl,rfl,fun t _=>rfl,fun j p s t hp hs hl _=>?_,fun j p hp hl=>?_⟩ <;>
  ·exfalso
   have hlt:=(Array.getElem?_eq_some_iff.1 hp).1
   simp at hl
   rw[Array.getElem?_replicate] at hl
   split at hl <;> simp at hl
end
def evalS (a0:Act)(env:List (Tmp×Sp)):Operand->Sp
 | .tmp t=>look a0 env t
 | x=>.is (a0.eval x)
def wantB (ops:Array Oper)(a0:Act)(env:List (Tmp×Sp))(o:Oper):Bool:=
 match o.guard with
 | none=>true
 | some (g,b)=>
  match (ops[g]?).bind (·.dst) with
  | none=>false
  | some d=>match look a0 env d with
   | .is (.bool x)=>x == b
   | _=>false
section
variable {P:Program} {ops:Array Oper} {w0:World} {a0:Act} {env:List (Tmp×Sp)} {o:Oper}
theorem want_of (hw:wantB ops a0 env o=true){A:Act}{w:World}(hA:∀t∈o.looksAt ops,(look a0 env t).holds (A.tmps.getD t undef) w):Region.wanted o (yielded ops A.tmps)=true:=by
 unfold Region.wanted
 unfold wantB at hw
 cases hg:o.guard with
 | none=>rfl
 | some gb=>
  obtain⟨g,b⟩:=gb
  rw[hg] at hw
  simp only at hw ⊢
  unfold yielded
  cases hd:(ops[g]?).bind (·.dst) with
  | none=>rw[hd] at hw;cases hw
  | some d=>
   rw[hd] at hw
   simp only at hw
   have h:=hA d (by simp[Oper.looksAt,hg,hd])
   cases hl:look a0 env d with
   | fits R=>rw[hl] at hw;cases hw
   | is c=>
    rw[hl] at hw h
    cases c <;> try cases hw
    rename_i x
    have hx:x=b:=by simpa using hw
    subst hx
    have h2:A.tmps.getD d undef= .bool x:=h
    simp only[Option.bind_some]
    rw[Array.getD_eq_getD_getElem?] at h2
    cases hq:A.tmps[d]? with
    | none=>rw[hq] at h2;cases h2
    | some v=>rw[hq] at h2;simp at h2;subst h2;simp
theorem eval_of {A:Act}{w:World}(hA:∀t∈o.looksAt ops,(look a0 env t).holds (A.tmps.getD t undef) w){x:Operand}(hx:x∈o.op.operands):(evalS a0 env x).holds (A.eval x) w:=by
 cases x with
 | tmp t=>exact hA t (List.mem_append_left _ (List.mem_filterMap.2 ⟨.tmp t,by simpa using hx,rfl⟩))
 | _=>rfl
theorem owes_run {s:Sp}(hw:wantB ops a0 env o=true)(h:∀ (ρ:Operand->Value) (w:World),Below w0.heap.size w0 w->(∀x∈o.op.operands,(evalS a0 env x).holds (ρ x) w)->YieldOk P w s.holds ((execOp ρ o).run P w)):Owes P ops w0 a0 env o s:=by
 intro A w hb hA
 unfold StepOk
 rw[if_pos (want_of hw hA)]
 exact h A.eval w hb fun x hx=>eval_of hA hx
theorem owes_move {s:Sp}{x:Operand}(ho:o.op= .move x)(hs:evalS a0 env x=s)(hw:wantB ops a0 env o=true):Owes P ops w0 a0 env o s:=
 owes_run hw fun ρ w _ hρ=>by
  have:=hρ x (by simp[ho,Op.operands])
  simp only[execOp,ho]
  rw[hs] at this
  exact⟨Below.refl _ _,this⟩
theorem owes_assign {s:Sp}{x:Operand}(ho:o.op= .assign x)(hs:evalS a0 env x=s)(hw:wantB ops a0 env o=true):Owes P ops w0 a0 env o s:=
 owes_run hw fun ρ w _ hρ=>by
  have:=hρ x (by simp[ho,Op.operands])
  simp only[execOp,ho]
  rw[hs] at this
  exact⟨Below.refl _ _,this⟩
theorem owes_pick {s:Sp}{c x y:Operand}{b:Bool}(ho:o.op= .pick c x y)(hc:evalS a0 env c= .is (.bool b))(hs:evalS a0 env (cond b x y)=s)(hw:wantB ops a0 env o=true):Owes P ops w0 a0 env o s:=
 owes_run hw fun ρ w _ hρ=>by
  have h1:=hρ c (by simp[ho,Op.operands])
  have h2:=hρ (cond b x y) (by cases b <;> simp[ho,Op.operands])
  rw[hc] at h1
  rw[hs] at h2
  have h1:ρ c= .bool b:=h1
  simp only[execOp,ho,h1]
  cases b <;> exact ⟨Below.refl _ _,h2⟩
theorem owes_bin {c:Value}{op:BinOp}{t u:TypeId}{x y:Operand}{vx vy:Value}(ho:o.op= .binOp op t x y u)(hx:evalS a0 env x= .is vx)(hy:evalS a0 env y= .is vy)
  (hr:∀w,(do eqGuard op t x y vx vy;binOp op t vx vy:Sem Value).run P w= .ok c w) (hw:wantB ops a0 env o=true):Owes P ops w0 a0 env o (.is c):=
 owes_run hw fun ρ w _ hρ=>by
  have h1:=hρ x (by simp[ho,Op.operands])
  have h2:=hρ y (by simp[ho,Op.operands])
  rw[hx] at h1
  rw[hy] at h2
  have h1:ρ x=vx:=h1
  have h2:ρ y=vy:=h2
  simp only[execOp,ho,h1,h2]
  rw[Sem.run_bind,hr w]
  exact⟨Below.refl _ _,rfl⟩
theorem owes_convert {c:Value}{s t:TypeId}{x:Operand}(ho:o.op= .convert s t x)(hr:∀v w,Below w0.heap.size w0 w->(evalS a0 env x).holds v w->(convert s t v).run P w= .ok c w)(hw:wantB ops a0 env o=true):Owes P ops w0 a0 env o (.is c):=
 owes_run hw fun ρ w hb hρ=>by
  have h1:=hr _ w hb (hρ x (by simp[ho,Op.operands]))
  simp only[execOp,ho,Sem.run_bind,h1,Result.andThen_ok]
  exact⟨Below.refl _ _,rfl⟩
theorem owes_load {c:Value}{t:TypeId}{x:Operand}(ho:o.op= .load t x)(hr:∀v w,Below w0.heap.size w0 w->(evalS a0 env x).holds v w->(Instr.loadAt t v).run P w= .ok c w)(hw:wantB ops a0 env o=true):Owes P ops w0 a0 env o (.is c):=
 owes_run hw fun ρ w hb hρ=>by
  have h1:=hr _ w hb (hρ x (by simp[ho,Op.operands]))
  simp only[execOp,ho,Sem.run_bind,h1,Result.andThen_ok]
  exact⟨Below.refl _ _,rfl⟩
def All (a0:Act)(env:List (Tmp×Sp)):List Operand->List Value->World->Prop
 | [],vs,_=>vs = []
 | x :: xs,vs,w=>∃v r,vs=v :: r/\(evalS a0 env x).holds v w/\All a0 env xs r w
theorem all_of {ρ:Operand->Value}{w:World}:∀ (xs:List Operand),(∀x∈xs,(evalS a0 env x).holds (ρ x) w)->All a0 env xs (xs.map ρ) w
 | [],_=>rfl
 | x :: xs,h=>⟨_,_,rfl,h x (by simp),all_of xs fun y hy=>h y (by simp[hy])⟩
theorem run_enter {P : Program} {f : FuncId} {fn : Func} (hf : P.funcs[f]? = some fn) (hn : (fn.name == "runtime.NumGoroutine") = false) (hb : fn.body.isNone = false) (args : Array Value) (w : World) : (callFunc f args).run P w = .ok (.enter f args) w := by
 have hp:(program:Sem Program).run P w= .ok P w:=rfl
 unfold callFunc
 rw[Sem.run_bind,hp]
 simp only[Result.andThen_ok,hf,hn,hb,Bool.false_eq_true,if_false,Sem.run_pure]
theorem owes_call {s : Sp} {f : FuncId} {xs : List Operand} {ts : Array TypeId} {fn : Func} (hf : P.funcs[f]? = some fn) (hn : (fn.name == "runtime.NumGoroutine") = false) (hbo : fn.body.isNone = false) (ho : o.op = .call { callee := .value (.func f), args := xs.toArray, argTypes := ts })
  (hr:∀vs w,Below w0.heap.size w0 w->All a0 env xs vs w->Calls P f vs.toArray w fun e w'=>∃v,e= .returned v/\Below w.heap.size w w'/\s.holds v w') (hw:wantB ops a0 env o=true):Owes P ops w0 a0 env o s:=
 owes_run hw fun ρ w hb hρ=>by
  have h1:=hr _ w hb (all_of xs fun x hx=>hρ x (by simp[ho,Op.operands,Call.operands,hx]))
  have h2:ρ (.func f)=a0.eval (.func f):=hρ (.func f) (by simp[ho,Op.operands,Call.operands])
  simp only[execOp,ho,resolve,h2,Act.eval]
  simp[go_sem,invoke]
  rw[run_enter hf hn hbo]
  exact h1
theorem zaF {s:Sp}{os:List Oper}{ss:List Sp}(h:Owes P ops w0 a0 env o s)(hs:s.ok)(hr:Steps P ops w0 a0 os ss ((dstOf o,s) :: env)):Steps P ops w0 a0 (o :: os) (s :: ss) env:=⟨h,hs,hr⟩
theorem steps_nil {ss:List Sp}:Steps P ops w0 a0 [] ss env:=trivial
end
end Go.Proofs.YtlappkflnlbfcaaGreatDoor.Stab
namespace Go.Proofs.YtlappkflnlbfcaaGreatDoor.Stab
open Go Go.RowKit
section
variable {P:Program} {hd full:Array Oper} {w0:World}
def noGuardB (ops:Array Oper):Bool:=ops.all fun o=>o.guard.isNone
theorem noGuard_of {ops:Array Oper}(h:noGuardB ops=true){i:Nat}{o:Oper}(ho:ops[i]? = some o):o.guard=none:=by
 have:=(Array.all_eq_true_iff_forall_mem.1 h) o (Array.mem_of_getElem? ho)
 simpa using this
theorem any_tail {size n g:Nat}(hS:Sound hd size)(hG:noGuardB hd=true)(hn:hd.size=n)(hg:full.size=n+g)(hg0:0<g)(hpre:∀i,i<n->full[i]? = hd[i]?)
  (hsk:Region.sinkB .any full n=true) (hch:Region.chainB .any full n=true) {tail:List Oper} (htl:∀j,tail[j]? = full[n+j]?) (hlt:tail.length=g)
  (hseq:Region.seqB .any full g n ((List.replicate n true ++ List.replicate g false).toArray)=true)
  {sp:List Sp} {a0:Act} (h0:a0.tmps.size=size) (hok:∀s∈sp,s.ok) (hlen:sp.length=n) {Q:Exit->Act->World->Prop}
  (hst:Steps P hd w0 a0 hd.toList sp []) (hen:Ends w0 (fun a w=>wpList P full Q tail a w) hd.toList sp a0 (fun _=>True)) :
  ∀ (fuel:Nat) (listed:Array Bool) (rem:List Nat) (a:Act) (w:World),rem.Nodup->(∀j,j∈rem↔j<n/\listed.getD j false=false)->rem.length=fuel->HeadInv .any full n listed->Inv hd sp w0 a0 listed a w->
   wpAny P .any full Q (fuel+g) listed a w:=by
 have hgd:∀ (listed:Array Bool) j,listed.size=full.size->j<full.size->listed.getD j true=listed.getD j false:=fun listed j hs hj=>by
  have:j<listed.size:=by omega
  simp[this]
 intro fuel
 induction fuel with
 | zero=>
  intro listed rem a w hnd hrem hle hH hI
  have he:rem = []:=List.eq_nil_of_length_eq_zero hle
  have hall:∀j,j<n->listed.getD j false=true:=fun j hj=>by
   cases hc:listed.getD j false with
   | true=>rfl
   | false=>
    have:j∈rem:=(hrem j).2 ⟨hj,hc⟩
    rw[he] at this
    cases this
  have hL:listed=(List.replicate n true ++ List.replicate g false).toArray:=by
   apply Array.ext
   ·rw[hH.size,hg];simp
   ·intro i h1 h2
    have hi:i<full.size:=by rw[<- hH.size];exact h1
    by_cases hin:i<n
    ·have:=hall i hin
     simp[h1] at this
     rw[this]
     simp[hin]
    ·have:=hH.tail i (by omega) hi
     simp[h1] at this
     rw[this]
     simp[List.getElem_append,hin]
  rw[Nat.zero_add,<- hlt]
  refine wpAny_of_seq tail n listed a w htl (by rw[hlt,hL];exact hseq) ?_
  refine ends_at hd.toList sp a0 _ hen a w hI.size hI.defers hI.below trivial (fun j p s hp hs=>?_) (fun t ht=>?_)
  ·have hp':hd[j]? = some p:=by simpa using hp
   obtain⟨d,hd',hds⟩:=hS.dst j p hp'
   have hj:j<n:=by have:=(Array.getElem?_eq_some_iff.1 hp').1;omega
   exact⟨d,hd',by rw[hI.size,h0];exact hds,hI.new j p s d hp' hs (hall j hj) hd'⟩
  ·exact hI.old t fun j p hp _=>ht j p (by simpa using hp)
 | succ fuel ih=>
  intro listed rem a w hnd hrem hle hH hI
  rw[show fuel+1+g=(fuel+g)+1 from by omega]
  obtain⟨j0,hj0⟩:∃j,j∈rem:=by
   cases rem with
   | nil=>simp at hle
   | cons x xs=>exact ⟨x,by simp⟩
  refine⟨fun hr=>?_,fun i hi=>?_⟩
  ·exfalso
   have:∀j,j ∉ rem:=by
    intro j
    induction j using Nat.strongRecOn with
    | ind j IH=>
     intro hj
     obtain⟨hlt',hun⟩:=(hrem j).1 hj
     have ho:hd[j]? = some hd[j]:=Array.getElem?_eq_getElem (by omega)
     have:j∈Region.ready .any full listed:=mem_ready.2 ⟨by rw[hgd listed j hH.size (by omega)];exact hun,_,(hpre j hlt').trans ho,fun e he hb=>by
      have hlt2:=hS.back j _ ho e he hb
      cases hc:listed.getD e.on false with
      | true=>rfl
      | false=>exact absurd ((hrem e.on).2 ⟨by omega,hc⟩) (IH e.on hlt2)⟩
     rw[hr] at this
     cases this
   exact this j0 hj0
  ·have hin:i<n:=by
    rcases Nat.lt_or_ge i n with h | h
    ·exact h
    ·obtain ⟨hlt',hun⟩:=(hrem j0).1 hj0
     exact absurd hi (tail_waits hsk hch (by omega) hH (n - j0) j0 rfl hlt' (by rw[hgd listed j0 hH.size (by omega)];exact hun) i h)
   obtain⟨h1,o,hof,haf⟩:=mem_ready.1 hi
   have ho:hd[i]? = some o:=(hpre i hin).symm.trans hof
   rw[hgd listed i hH.size (by omega)] at h1
   obtain⟨s,hs⟩:∃s,sp[i]? = some s:=⟨sp[i],List.getElem?_eq_getElem (by omega)⟩
   have hstep:StepOk P hd o a w s:=by
    obtain⟨env',hob,hlk⟩:=owes_at hS hd.toList sp 0 [] (by simp) hst i o s (Nat.zero_le _) ho (by simpa using hs)
    refine hob a w hI.below fun t ht=>?_
    rcases hlk t with ⟨j,p,s',_,hji,hp,hs',hd',he⟩ | ⟨hno,he⟩
    ·rw[he]
     rcases hS.looks i j o p t ho hp ht hd' with ⟨_,hbe⟩ | ⟨hij,_⟩
     ·obtain ⟨e,he,hee⟩:=Array.any_eq_true'.1 hbe
      simp only[Bool.and_eq_true,beq_iff_eq] at hee
      have:=haf e he hee.1
      rw[hee.2] at this
      exact hI.new j p s' t hp (by simpa using hs') this hd'
     ·omega
    ·rw[he]
     have hold:=hI.old t fun j p hp hl hd'=>by
      rcases hS.looks i j o p t ho hp ht hd' with ⟨hji,_⟩ | ⟨hij,hbe⟩
      ·exact hno j p (Nat.zero_le _) hji hp hd'
      ·obtain ⟨e,he,hee⟩:=Array.any_eq_true'.1 hbe
       simp only[Bool.and_eq_true,beq_iff_eq] at hee
       have:=hI.shut j p hp hl e he hee.1
       rw[hee.2,h1] at this
       cases this
     show _=_
     rw[Array.getD_eq_getD_getElem?,hold,<- Array.getD_eq_getD_getElem?]
   have his:i<listed.size:=by rw[hH.size];omega
   have next:∀v w',Below w.heap.size w w'->s.holds v w'->wpAny P .any full Q (fuel+g) (listed.setIfInBounds i true) (a.put o.dst v) w':=fun v w' hb hv=>by
    have hir:i∈rem:=(hrem i).2 ⟨hin,h1⟩
    refine ih _ (rem.erase i) _ _ (hnd.erase i) (fun j=>?_) (by rw[List.length_erase_of_mem hir];omega) (hH.set hi hin) (hI.step hS h0 hok ho hs h1 his haf hb hv)
    rw[hnd.mem_erase_iff,hrem j]
    by_cases hij:i=j
    ·subst hij
     simp[his]
    ·rw[getD_set_ne false hij]
     exact⟨fun h=>h.2,fun h=>⟨fun e=>hij e.symm,h⟩⟩
   have hgn:=noGuard_of hG ho
   have hw:∀y,Region.wanted o y=true:=fun y=>by unfold Region.wanted;rw[hgn]
   unfold wpOp
   simp only[hof]
   unfold StepOk at hstep
   rw[if_pos (hw _)] at hstep
   rw[if_pos (hw _)]
   refine .inl ?_
   unfold Oper.wp
   generalize (execOp a.eval o).run P w=r at hstep ⊢
   cases r with
   | ok x w'=>
    cases x with
    | value v=>exact next v w' hstep.1 hstep.2
    | skip=>exact next _ w' hstep.1 hstep.2
    | enter f args=>
     refine Calls.mono hstep fun e w'' hq=>?_
     obtain⟨v,rfl,hb,hv⟩:=hq
     exact next v w'' hb hv
    | row row args=>exact Rows.mono hstep fun v w'' hq=>next v w'' hq.1 hq.2
    | _=>exact hstep.elim
   | halt x w'=>exact hstep.elim
theorem region_tail {id:Nat}{Q:Exit->Act->World->Prop}{a:Act}{l:List Oper}(n size:Nat)(sp:List Sp)(hm:P.follows .mixedOrders=true)(hB:okB (l.take n).toArray size=true)(hG:noGuardB (l.take n).toArray=true)
  (hT:(decide (n<l.length) && Region.sinkB .any l.toArray n && Region.chainB .any l.toArray n && Region.seqB .any l.toArray (l.length - n) n ((List.replicate n true ++ List.replicate (l.length - n) false).toArray))=true)
  (hsz:a.tmps.size=size) (hlen:sp.length=n)
  (hst:Steps P (l.take n).toArray w0 a (l.take n) sp []) (hen:Ends w0 (fun a w=>wpList P l.toArray Q (l.drop n) a w) (l.take n) sp a (fun _=>True)):(Code.region id l.toArray true).wp P Q a w0:=by
 simp only[Bool.and_eq_true,decide_eq_true_eq] at hT
 obtain⟨⟨⟨hn,hsk⟩,hch⟩,hseq⟩:=hT
 have htk:(l.take n).length=n:=by simp;omega
 refine wp_region_any hm ?_
 have hS:=ok_of hB
 have H:=any_tail (P:=P) (full:=l.toArray) (w0:=w0) (n:=n) (g:=l.length - n) hS hG (by simpa using htk) (by simp;omega) (by omega) (fun i hi=>by simp[hi]) hsk hch
  (tail:=l.drop n) (fun j=>by simp[List.getElem?_drop]) (by simp) hseq hsz (steps_ok (l.take n) sp [] hst (by omega)) hlen (Q:=Q) (by simpa using hst) (by simpa using hen) n (Array.replicate l.toArray.size false) (List.range n) a { w0 with drawn:=w0.drawn+1 } List.nodup_range
  (fun j=>by rw[List.mem_range,getD_replicate_false];simp) (by simp)
  ⟨by simp,fun j oj _ hl=>(by rw[getD_replicate_false] at hl;cases hl),fun t _ ht=>getD_in (by simpa using ht) (getD_replicate_false _ _)⟩
  ⟨⟨rfl,rfl,rfl,Nat.le_refl _,fun _ _=>rfl⟩,rfl,rfl,fun t _=>rfl,fun j p s t hp hs hl _=>(by rw[getD_replicate_false] at hl;cases hl),fun j p hp hl=>(by rw[getD_replicate_false] at hl;cases hl)⟩
 have e:n+(l.length - n)=l.toArray.size:=by simp;omega
 rw[e] at H
 exact H
end
section
variable {P:Program} {ops:Array Oper} {w0:World} {a0:Act} {env:List (Tmp×Sp)} {o:Oper}
def FnOk (P : Program) (k : FuncId) : Prop := ∃ fn, P.funcs[k]? = some fn ∧ (fn.name == "runtime.NumGoroutine") = false ∧ fn.body.isNone = false
theorem owes_upto {c:Value}{t:TypeId}{x y:Operand}{vx vy:Value}(ho:o.op= .slice t x none (some y) none)(hx:evalS a0 env x= .is vx)(hy:evalS a0 env y= .is vy)
  (hr:∀w,(Instr.sliceAt t vx none (some vy) none).run P w= .ok c w) (hw:wantB ops a0 env o=true):Owes P ops w0 a0 env o (.is c):=
 owes_run hw fun ρ w _ hρ=>by
  have h1:=hρ x (by simp[ho,Op.operands])
  have h2:=hρ y (by simp[ho,Op.operands])
  rw[hx] at h1
  rw[hy] at h2
  have h1:ρ x=vx:=h1
  have h2:ρ y=vy:=h2
  simp only[execOp,ho,h1,h2,Option.map_none,Option.map_some]
  rw[Sem.run_bind,hr w]
  exact⟨Below.refl _ _,rfl⟩
theorem owes_alloc {s:Sp}{t:TypeId}(ho:o.op= .alloc t)(hr:∀w,Below w0.heap.size w0 w->YieldOk P w s.holds ((execOp (fun _=>undef) o).run P w))(hw:wantB ops a0 env o=true):Owes P ops w0 a0 env o s:=
 owes_run hw fun ρ w hb hρ=>by
  have:=hr w hb
  simp only[execOp,ho] at this ⊢
  exact this
end
end Go.Proofs.YtlappkflnlbfcaaGreatDoor.Stab
namespace Go.Proofs.YtlappkflnlbfcaaGreatDoor.Stab
open Go.RowKit
set_option maxRecDepth 100000
section
variable {P:Program} {ops:Array Oper} {w0:World} {a0:Act} {env:List (Tmp×Sp)} {o:Oper}
theorem owes_length {x:Operand}{T:TypeId}{v c:Value}(ho:o.op= .call { callee:=.builtin .len,args:=#[x],argTypes:=#[T] })(hx:evalS a0 env x= .is v)(hr:∀W,(Builtin.len_ #[T] o.type #[v]).run P W= .ok c W)(hw:wantB ops a0 env o=true):Owes P ops w0 a0 env o (.is c):=
 owes_run hw fun ρ w _ hρ=>by
  have h1:=hρ x (by simp[ho,Op.operands,Call.operands])
  rw[hx] at h1
  have h1:ρ x=v:=h1
  simp only[execOp,ho,resolve,List.map_toArray,List.map_cons,List.map_nil,h1]
  simp[go_sem,invoke,builtin]
  rw[hr]
  exact⟨Below.refl _ _,rfl⟩
theorem owes_fieldAt {x:Operand}{T:TypeId}{i:Nat}{v c:Value}(ho:o.op= .fieldAddr T x i)(hx:evalS a0 env x= .is v)(hr:∀W,(Instr.fieldAt T v i).run P W= .ok c W)(hw:wantB ops a0 env o=true):Owes P ops w0 a0 env o (.is c):=
 owes_run hw fun ρ w _ hρ=>by
  have h1:=hρ x (by simp[ho,Op.operands])
  rw[hx] at h1
  have h1:ρ x=v:=h1
  simp only[execOp,ho,h1,Sem.run_bind]
  rw[hr]
  exact⟨Below.refl _ _,rfl⟩
theorem owes_indexAt {x y:Operand}{T:TypeId}{v u c:Value}(ho:o.op= .indexAddr T x y)(hx:evalS a0 env x= .is v)(hy:evalS a0 env y= .is u)(hr:∀W,(Instr.indexAt T v u).run P W= .ok c W)(hw:wantB ops a0 env o=true):Owes P ops w0 a0 env o (.is c):=
 owes_run hw fun ρ w _ hρ=>by
  have h1:=hρ x (by simp[ho,Op.operands])
  have h2:=hρ y (by simp[ho,Op.operands])
  rw[hx] at h1
  rw[hy] at h2
  have h1:ρ x=v:=h1
  have h2:ρ y=u:=h2
  simp only[execOp,ho,h1,h2,Sem.run_bind]
  rw[hr]
  exact⟨Below.refl _ _,rfl⟩
end
end Go.Proofs.YtlappkflnlbfcaaGreatDoor.Stab
end
