/- BodDepth, BodTake, BodApp. -/
import Derived.Test.YtlappkflnlbfcaaGreatDoorPkBodFew
import Derived.Test.YtlappkflnlbfcaaGreatDoorPkBodAround
import Derived.Test.YtlappkflnlbfcaaGreatDoorPkInsStab
section
namespace Go.Proofs.YtlappkflnlbfcaaGreatDoor.Bod
open Go.RowKit Ints Typ Ins
set_option maxRecDepth 100000
set_option maxHeartbeats 1000000
set_option linter.unusedVariables false
def aroundD (ops:List Int)(p:Nat):List Int:=(sIn ops p).map fun a=>(a.1:Int)
def depL (ops:List Int)(i:Nat):List Int:=(List.range i).map fun p=>((aroundD ops p).length:Int)
theorem depL_succ (ops:List Int)(i:Nat):depL ops (i+1)=depL ops i ++ [((aroundD ops i).length:Int)]:=by
 unfold depL
 rw[List.range_succ,List.map_append]
 rfl
end Go.Proofs.YtlappkflnlbfcaaGreatDoor.Bod
end
section
namespace Go.Proofs.YtlappkflnlbfcaaGreatDoor.Bod
set_option maxRecDepth 100000
set_option maxHeartbeats 1000000
set_option linter.unusedVariables false
structure Nst where
 M:List (Int×Int)
 D:List Int
 S:List (Int×Nat)
def depO (op:Int)(n:Nst):Int:=if op=5\/op=11 then (n.S.length:Int) - 1 else (n.S.length:Int)
def tkTurn (a:Nat)(n:Nst):Option Nst:=match n.S.getLast? with
 | none=>none
 | some x=>if x.1≠4\/(n.M.getD x.2 (0,0)).1≠-1 then none else some ⟨n.M.set x.2 ((a:Int),(n.M.getD x.2 (0,0)).2),n.D,n.S⟩
def endM (a k:Nat)(M:List (Int×Int)):List (Int×Int):=
 if (M.getD k (0,0)).1 = -1 then M.set k ((M.getD k (0,0)).1,(a:Int))
 else (M.set k ((M.getD k (0,0)).1,(a:Int))).set (M.getD k (0,0)).1.toNat (((M.set k ((M.getD k (0,0)).1,(a:Int))).getD (M.getD k (0,0)).1.toNat (0,0)).1,(a:Int))
def tkEnd (a:Nat)(n:Nst):Option Nst:=match n.S.getLast? with
 | none=>none
 | some x=>some ⟨endM a x.2 n.M,n.D,n.S.dropLast⟩
def tk1 (op:Int)(n:Nst):Nst:=⟨n.M ++ [(-1,-1)],n.D ++ [depO op n],n.S⟩
def tk (op:Int)(n:Nst):Option Nst:=
 if opn op then some ⟨(tk1 op n).M,(tk1 op n).D,n.S ++ [(op,n.M.length)]⟩
 else if op=5 then tkTurn n.M.length (tk1 op n)
 else if op=11 then tkEnd n.M.length (tk1 op n)
 else some (tk1 op n)
def nst (ops:List Int):Nat->Option Nst
 | 0=>some ⟨[],[],[]⟩
 | p+1=>(nst ops p).bind fun n=>tk (ops.getD p 0) n
structure NOk (n:Nst):Prop where
 len:n.D.length=n.M.length
 stk:∀x∈n.S,x.2<n.M.length
 fst:∀y∈n.M,y.1 = -1\/(0<=y.1/\y.1<(n.M.length:Int))
theorem mem_setI {α:Type}{l:List α}{i:Nat}{a y:α}(h:y∈l.set i a):y∈l\/y=a:=List.mem_or_eq_of_mem_set h
theorem getD_mem {α:Type}{l:List α}{i:Nat}(d:α)(h:i<l.length):l.getD i d∈l:=by
 rw[List.getD_eq_getElem?_getD,List.getElem?_eq_getElem h]
 exact List.getElem_mem h
theorem NOk.one {n:Nst}(h:NOk n)(op:Int):NOk (tk1 op n):=by
 refine⟨by simp[tk1,h.len],fun x hx=>?_,fun y hy=>?_⟩
 ·have:=h.stk x hx
  simp only[tk1,List.length_append,List.length_cons,List.length_nil]
  omega
 ·simp only[tk1,List.length_append,List.length_cons,List.length_nil]
  rcases List.mem_append.1 hy with hy | hy
  ·rcases h.fst y hy with e | e
   ·exact .inl e
   ·exact .inr ⟨e.1,by omega⟩
  ·simp at hy
   subst hy
   exact .inl rfl
theorem last_mem {α:Type}{l:List α}{x:α}(h:l.getLast? = some x):x∈l:=List.mem_of_getLast? h
theorem NOk.step {n n':Nst}{op:Int}(h:NOk n)(ht:tk op n=some n'):NOk n':=by
 have h1:=h.one op
 have hl:(tk1 op n).M.length=n.M.length+1:=by simp[tk1]
 unfold tk at ht
 split at ht
 ·obtain rfl:=Option.some.inj ht
  refine⟨h1.len,fun x hx=>?_,h1.fst⟩
  rcases List.mem_append.1 hx with hx | hx
  ·exact h1.stk x hx
  ·simp at hx
   subst hx
   show n.M.length<(tk1 op n).M.length
   omega
 ·split at ht
  ·unfold tkTurn at ht
   split at ht
   ·cases ht
   ·rename_i x hx
    split at ht
    ·cases ht
    ·obtain rfl:=Option.some.inj ht
     refine⟨by simp[h1.len],fun y hy=>by simpa using h1.stk y hy,fun y hy=>?_⟩
     simp only[List.length_set]
     rcases mem_setI hy with hy | rfl
     ·exact h1.fst y hy
     ·exact .inr ⟨by simp,by simp only;omega⟩
  ·split at ht
   ·unfold tkEnd at ht
    split at ht
    ·cases ht
    ·rename_i x hx
     obtain rfl:=Option.some.inj ht
     have hk:=h1.stk x (last_mem hx)
     have he:(endM n.M.length x.2 (tk1 op n).M).length=(tk1 op n).M.length:=by unfold endM;split <;> simp
     have hf:=h1.fst _ (getD_mem (0,0) hk)
     refine⟨by simp only[he];exact h1.len,fun y hy=>?_,fun y hy=>?_⟩
     ·simp only[he]
      exact h1.stk y (List.dropLast_subset (tk1 op n).S hy)
     ·simp only[he]
      simp only[endM] at hy
      split at hy
      ·rcases mem_setI hy with hy | rfl
       ·exact h1.fst y hy
       ·exact hf
      ·rename_i hne
       rcases mem_setI hy with hy | rfl
       ·rcases mem_setI hy with hy | rfl
        ·exact h1.fst y hy
        ·exact hf
       ·have hlt:((tk1 op n).M.getD x.2 (0,0)).1.toNat<((tk1 op n).M.set x.2 (((tk1 op n).M.getD x.2 (0,0)).1,(n.M.length:Int))).length:=by
         rw[List.length_set]
         rcases hf with e | e
         ·exact absurd e hne
         ·omega
        rcases mem_setI (getD_mem (0,0) hlt) with hy | hy
        ·have:=h1.fst _ hy
         exact this
        ·rw[hy];exact hf
   ·obtain rfl:=Option.some.inj ht
    exact h1
theorem nst_ok (ops:List Int):∀ {p:Nat} {n:Nst},nst ops p=some n->NOk n
 | 0,n,h=>by
  obtain rfl:=Option.some.inj h
  exact⟨rfl,fun x hx=>by simp at hx,fun y hy=>by simp at hy⟩
 | p+1,n,h=>by
  have e:nst ops (p+1)=(nst ops p).bind fun n=>tk (ops.getD p 0) n:=rfl
  rw[e] at h
  cases h0:nst ops p with
  | none=>rw[h0] at h;cases h
  | some n0=>
   rw[h0] at h
   exact(nst_ok ops h0).step h
structure NInv (ops:List Int) (p:Nat) (S:Stk) (n:Nst):Prop where
 len:n.M.length=p
 dep:n.D=depL ops p
 stk:n.S=(S.map fun x=>(ops.getD x.1 0,x.1)).reverse
 srt:S.Pairwise fun x y=>y.1<x.1/\y.2.2<(x.1:Int)
 opm:∀x∈S,n.M.getD x.1 (0,0)=(x.2.2,-1)
 els:∀x∈S,0<=x.2.2->n.M.getD x.2.2.toNat (0,0)=(-1,-1)
 cls:∀k,k<p->opn (ops.getD k 0)=true->Closed ops p k->n.M.getD k (0,0)=((dEnd ops k).2,(dEnd ops k).1)
 ces:∀k,k<p->opn (ops.getD k 0)=true->Closed ops p k->0<=(dEnd ops k).2->n.M.getD (dEnd ops k).2.toNat (0,0)=(-1,(dEnd ops k).1)
 oth:∀q,q<p->¬ opn (ops.getD q 0)=true->(∀k,k<p->opn (ops.getD k 0)=true->Closed ops p k->(dEnd ops k).2≠(q:Int))->n.M.getD q (0,0)=(-1,-1)
theorem closed_succ {ops:List Int}{p k:Nat}{S:Stk}(hp:p<ops.length)(h0:st ops p=some S)(hk:k<p+1)(ho:opn (ops.getD k 0)=true)(hc:Closed ops (p+1) k):k<p/\(Closed ops p k\/(ops.getD p 0=11/\∃f o S2,S=(k,f,o) :: S2)):=by
 obtain⟨e,o,c1,c2,c3,c4,c5⟩:=hc
 have hkp:k<p:=by omega
 refine⟨hkp,?_⟩
 by_cases ep:e<p
 ·exact .inl ⟨e,o,c1,c2,ep,c4,c5⟩
 ·obtain rfl:e=p:=by omega
  rcases open_or_closed ops (by omega) h0 k hkp ho with ⟨f,o',hm⟩ | hc'
  ·obtain ⟨S1,S2,rfl⟩:=List.append_of_mem hm
   cases S1 with
   | nil=>exact .inr ⟨c4,f,o',S2,rfl⟩
   | cons a S1=>
    exfalso
    obtain⟨g1,g2,g3,g4,g5,g7,g6⟩:=held ops (by omega) h0 (a :: S1) S2 k f o' rfl
    have hno:¬ opn (ops.getD e 0)=true:=by rw[c4];decide
    rw[drop_cons hp,el,if_neg hno,if_neg (by rw[c4];simp),if_neg (by simp),if_pos c4] at g6
    rcases el_facts f (ops.drop (e+1)) (e+1) ((a :: S1).length - 1) o' (by omega) with q | ⟨e2,o2,q1,q2,_⟩
    ·rw[g6,q] at c1;simp at c1
    ·rw[g6,q1] at c1
     simp only[Prod.mk.injEq] at c1
     omega
  ·exact .inl hc'
theorem getD_app1 {α:Type}{l:List α}{x d:α}{i:Nat}(h:i<l.length):(l ++ [x]).getD i d=l.getD i d:=by
 rw[List.getD_eq_getElem?_getD,List.getD_eq_getElem?_getD,List.getElem?_append_left h]
theorem getD_app2 {α:Type}{l:List α}{x d:α}:(l ++ [x]).getD l.length d=x:=by
 rw[List.getD_eq_getElem?_getD,List.getElem?_append_right (Nat.le_refl _)]
 simp
theorem NInv.one {ops:List Int}{p:Nat}{S:Stk}{n:Nst}(hp:p<ops.length)(h0:st ops p=some S)(I:NInv ops p S n):(n.M ++ [((-1:Int),(-1:Int))]).length=p+1/\(n.M ++ [((-1:Int),(-1:Int))]).getD p (0,0)=(-1,-1)/\(∀x∈S,(n.M ++ [((-1:Int),(-1:Int))]).getD x.1 (0,0)=(x.2.2,-1))/\(∀x∈S,0<=x.2.2->(n.M ++ [((-1:Int),(-1:Int))]).getD x.2.2.toNat (0,0)=(-1,-1))/\(∀k,k<p->opn (ops.getD k 0)=true->Closed ops p k->(n.M ++ [((-1:Int),(-1:Int))]).getD k (0,0)=((dEnd ops k).2,(dEnd ops k).1))/\(∀k,k<p->opn (ops.getD k 0)=true->Closed ops p k->0<=(dEnd ops k).2->(dEnd ops k).2.toNat<p/\(n.M ++ [((-1:Int),(-1:Int))]).getD (dEnd ops k).2.toNat (0,0)=(-1,(dEnd ops k).1))/\(∀q,q<p+1->¬ opn (ops.getD q 0)=true->(∀k,k<p->opn (ops.getD k 0)=true->Closed ops p k->(dEnd ops k).2≠(q:Int))->(n.M ++ [((-1:Int),(-1:Int))]).getD q (0,0)=(-1,-1)):=by
 have hl:=I.len
 have hH:=held ops (by omega) h0
 have key:∀i,i<p->(n.M ++ [((-1:Int),(-1:Int))]).getD i (0,0)=n.M.getD i (0,0):=fun i hi=>getD_app1 (by omega)
 have keyp:(n.M ++ [((-1:Int),(-1:Int))]).getD p (0,0)=(-1,-1):=by rw[<- hl];exact getD_app2
 have hx:∀x∈S,x.1<p/\x.2.2<(p:Int):=fun x hx=>by
  obtain⟨S1,S2,e⟩:=List.append_of_mem hx
  obtain⟨k,f,o⟩:=x
  obtain⟨g1,g2,g3,g4,_⟩:=hH S1 S2 k f o e
  exact⟨g1,g4⟩
 refine⟨by simp[hl],keyp,fun x h=>?_,fun x h h1=>?_,fun k h1 h2 h3=>?_,fun k h1 h2 h3 h4=>?_,fun q h1 h2 h3=>?_⟩
 ·rw[key _ (hx x h).1];exact I.opm x h
 ·rw[key _ (by have:=(hx x h).2;omega)];exact I.els x h h1
 ·rw[key _ h1];exact I.cls k h1 h2 h3
 ·obtain ⟨e,o,c1,c2,c3,c4,c5,_⟩:=id h3
  have hlt:(dEnd ops k).2.toNat<p:=by rw[c1];simp only;omega
  exact⟨hlt,by rw[key _ hlt];exact I.ces k h1 h2 h3 h4⟩
 ·by_cases e:q=p
  ·subst e;exact keyp
  ·rw[key _ (by omega)];exact I.oth q (by omega) h2 h3
theorem depL_step {ops:List Int}{p:Nat}{S S':Stk}{n:Nst}(h0:st ops p=some S)(I:NInv ops p S n)(hs:stepS p (ops.getD p 0) S=some S'):n.D ++ [depO (ops.getD p 0) n]=depL ops (p+1):=by
 rw[depL_succ,I.dep]
 congr 2
 have hS:sAt ops p=S:=by unfold sAt;rw[h0];rfl
 unfold depO aroundD sIn
 rw[hS,I.stk]
 by_cases g:ops.getD p 0=5\/ops.getD p 0=11
 ·rw[if_pos g,if_pos g]
  have hne:S≠[]:=by
   rintro rfl
   unfold stepS at hs
   rcases g with g | g
   ·rw[g] at hs;simp[opn] at hs
   ·rw[g] at hs;simp[opn] at hs
  cases S with
  | nil=>exact absurd rfl hne
  | cons a S=>simp
 ·rw[if_neg g,if_neg g]
  simp
theorem nst_open {ops:List Int}{p:Nat}{S:Stk}{n:Nst}(hp:p<ops.length)(h0:st ops p=some S)(I:NInv ops p S n)(h1:opn (ops.getD p 0)=true):∃n',tk (ops.getD p 0) n=some n'/\NInv ops (p+1) ((p,ops.getD p 0 == 4,-1) :: S) n':=by
 obtain⟨b1,b2,b3,b4,b5,b6,b7⟩:=I.one hp h0
 have hs:stepS p (ops.getD p 0) S=some ((p,ops.getD p 0 == 4,-1) :: S):=by unfold stepS;rw[if_pos h1]
 have hH:=held ops (by omega) h0
 have hcl:∀k,k<p+1->opn (ops.getD k 0)=true->Closed ops (p+1) k->k<p/\Closed ops p k:=fun k g1 g2 g3=>by
  obtain⟨q1,q2 | ⟨q2,_⟩⟩:=closed_succ hp h0 g1 g2 g3
  ·exact ⟨q1,q2⟩
  ·exact absurd q2 (opn_not h1).2
 refine⟨_,by unfold tk;rw[if_pos h1],⟨b1,depL_step h0 I hs,?_,?_,fun x hx=>?_,fun x hx hh=>?_,fun k g1 g2 g3=>?_,fun k g1 g2 g3 g4=>?_,fun q g1 g2 g3=>?_⟩⟩
 ·rw[List.map_cons,List.reverse_cons,I.stk,I.len]
 ·refine List.pairwise_cons.2 ⟨fun y hy=>?_,I.srt⟩
  obtain⟨S1,S2,e⟩:=List.append_of_mem hy
  obtain⟨k,f,o⟩:=y
  obtain⟨g1,g2,g3,g4,_⟩:=hH S1 S2 k f o e
  exact⟨g1,g4⟩
 ·rcases List.mem_cons.1 hx with rfl | hx
  ·exact b2
  ·exact b3 x hx
 ·rcases List.mem_cons.1 hx with rfl | hx
  ·simp only at hh;omega
  ·exact b4 x hx hh
 ·exact b5 k (hcl k g1 g2 g3).1 g2 (hcl k g1 g2 g3).2
 ·exact (b6 k (hcl k g1 g2 g3).1 g2 (hcl k g1 g2 g3).2 g4).2
 ·exact b7 q g1 g2 fun k r1 r2 r3=>g3 k (by omega) r2 (closed_mono r3 (by omega))
theorem nst_plain {ops:List Int}{p:Nat}{S:Stk}{n:Nst}(hp:p<ops.length)(h0:st ops p=some S)(I:NInv ops p S n)(h1:¬ opn (ops.getD p 0)=true)(h5:ops.getD p 0≠5)(h11:ops.getD p 0≠11):∃n',tk (ops.getD p 0) n=some n'/\NInv ops (p+1) S n':=by
 obtain⟨b1,b2,b3,b4,b5,b6,b7⟩:=I.one hp h0
 have hs:stepS p (ops.getD p 0) S=some S:=by unfold stepS;rw[if_neg h1,if_neg h5,if_neg h11]
 have hcl:∀k,k<p+1->opn (ops.getD k 0)=true->Closed ops (p+1) k->k<p/\Closed ops p k:=fun k g1 g2 g3=>by
  obtain⟨q1,q2 | ⟨q2,_⟩⟩:=closed_succ hp h0 g1 g2 g3
  ·exact ⟨q1,q2⟩
  ·exact absurd q2 h11
 refine⟨tk1 (ops.getD p 0) n,by unfold tk;rw[if_neg h1,if_neg h5,if_neg h11],⟨b1,depL_step h0 I hs,I.stk,I.srt,b3,b4,fun k g1 g2 g3=>?_,fun k g1 g2 g3 g4=>?_,fun q g1 g2 g3=>?_⟩⟩
 ·exact b5 k (hcl k g1 g2 g3).1 g2 (hcl k g1 g2 g3).2
 ·exact (b6 k (hcl k g1 g2 g3).1 g2 (hcl k g1 g2 g3).2 g4).2
 ·exact b7 q g1 g2 fun k r1 r2 r3=>g3 k (by omega) r2 (closed_mono r3 (by omega))
theorem top_last {ops:List Int}{S:Stk}{k:Nat}{f:Bool}{o:Int}:(((k,f,o) :: S).map fun x=>(ops.getD x.1 0,x.1)).reverse.getLast? = some (ops.getD k 0,k):=by
 rw[List.getLast?_reverse];rfl
theorem nst_else {ops:List Int}{p k:Nat}{S:Stk}{n:Nst}{o:Int}(hp:p<ops.length)(h0:st ops p=some ((k,true,o) :: S))(I:NInv ops p ((k,true,o) :: S) n)(h5:ops.getD p 0=5)(ho:o<0):∃n',tk (ops.getD p 0) n=some n'/\NInv ops (p+1) ((k,true,(p:Int)) :: S) n':=by
 obtain⟨b1,b2,b3,b4,b5,b6,b7⟩:=I.one hp h0
 have h1:¬ opn (ops.getD p 0)=true:=by rw[h5];decide
 have hs:stepS p (ops.getD p 0) ((k,true,o) :: S)=some ((k,true,(p:Int)) :: S):=by unfold stepS;rw[if_neg h1,if_pos h5];simp only;rw[if_pos ho]
 have hH:=held ops (by omega) h0
 obtain⟨g1,g2,g3,g4,g5,g7,g6⟩:=hH [] S k true o rfl
 obtain rfl:=g5 ho
 have hk:=b3 _ List.mem_cons_self
 simp only at hk
 have hcl:∀k,k<p+1->opn (ops.getD k 0)=true->Closed ops (p+1) k->k<p/\Closed ops p k:=fun k g1 g2 g3=>by
  obtain⟨q1,q2 | ⟨q2,_⟩⟩:=closed_succ hp h0 g1 g2 g3
  ·exact ⟨q1,q2⟩
  ·rw[h5] at q2;exact absurd q2 (by decide)
 have hlast:(tk1 (ops.getD p 0) n).S.getLast? = some (ops.getD k 0,k):=by
  show n.S.getLast? = _
  rw[I.stk];exact top_last
 have h4:ops.getD k 0=4:=by simpa using g3.symm
 have hpw:=List.pairwise_cons.1 I.srt
 refine⟨⟨(n.M ++ [(-1,-1)]).set k ((p:Int),-1),n.D ++ [depO (ops.getD p 0) n],n.S⟩,?_,?_⟩
 ·unfold tk tkTurn
  rw[if_neg h1,if_pos h5,hlast]
  simp only
  have e1:(tk1 (ops.getD p 0) n).M.getD k (0,0)=(-1,-1):=hk
  rw[if_neg (by rw[e1,h4];simp),e1,I.len]
  rfl
 ·refine ⟨by rw[List.length_set];exact b1,depL_step h0 I hs,I.stk,?_,fun x hx=>?_,fun x hx hh=>?_,fun j r1 r2 r3=>?_,fun j r1 r2 r3 r4=>?_,fun q r1 r2 r3=>?_⟩
  ·exact List.pairwise_cons.2 ⟨hpw.1,hpw.2⟩
  ·simp only[getD_setI]
   rcases List.mem_cons.1 hx with rfl | hx
   ·rw[if_pos ⟨rfl,by rw[b1];omega⟩]
   ·have:=(hpw.1 x hx).1
    simp only at this
    rw[if_neg (by omega)]
    exact b3 x (List.mem_cons_of_mem _ hx)
  ·simp only[getD_setI]
   rcases List.mem_cons.1 hx with rfl | hx
   ·simp only[Int.toNat_natCast]
    rw[if_neg (by omega)]
    exact b2
   ·have h':=b4 x (List.mem_cons_of_mem _ hx) hh
    rw[if_neg]
    ·exact h'
    ·rintro ⟨e,_⟩
     obtain⟨S1,S2,e2⟩:=List.append_of_mem hx
     obtain⟨k2,f2,o2⟩:=x
     obtain⟨_,_,_,_,_,q7,_⟩:=hH ((k,true,-1) :: S1) S2 k2 f2 o2 (by rw[e2];rfl)
     have:=(q7 hh).2
     simp only at e
     rw[<- e,h4] at this
     exact absurd this (by decide)
  ·obtain ⟨c1,c2⟩:=hcl j r1 r2 r3
   simp only[getD_setI]
   have hj:=b5 j c1 r2 c2
   rw[if_neg]
   ·exact hj
   ·rintro ⟨rfl,_⟩
    rw[hk] at hj
    obtain⟨e,o,q1,q2,_⟩:=c2
    rw[q1] at hj
    simp only[Prod.mk.injEq] at hj
    omega
  ·obtain ⟨c1,c2⟩:=hcl j r1 r2 r3
   simp only[getD_setI]
   have hj:=(b6 j c1 r2 c2 r4).2
   rw[if_neg]
   ·exact hj
   ·rintro ⟨e,_⟩
    obtain⟨e',o,q1,q2,q3,q4,q5,q6,q7⟩:=c2
    have:=(q7 (by rw[q1] at r4;exact r4)).2
    rw[q1] at e
    simp only at e
    rw[<- e,h4] at this
    exact absurd this (by decide)
  ·simp only[getD_setI]
   rw[if_neg]
   ·exact b7 q r1 r2 fun k r4 r5 r6=>r3 k (by omega) r5 (closed_mono r6 (by omega))
   ·rintro ⟨rfl,_⟩
    exact r2 g2
theorem nst_end {ops:List Int}{p k:Nat}{S:Stk}{n:Nst}{f:Bool}{o:Int}(hp:p<ops.length)(h0:st ops p=some ((k,f,o) :: S))(I:NInv ops p ((k,f,o) :: S) n)(h11:ops.getD p 0=11):∃n',tk (ops.getD p 0) n=some n'/\NInv ops (p+1) S n':=by
 obtain⟨b1,b2,b3,b4,b5,b6,b7⟩:=I.one hp h0
 have h1:¬ opn (ops.getD p 0)=true:=by rw[h11];decide
 have hs:stepS p (ops.getD p 0) ((k,f,o) :: S)=some S:=by unfold stepS;rw[if_neg h1,if_neg (by rw[h11];decide),if_pos h11]
 have hH:=held ops (by omega) h0
 obtain⟨g1,g2,g3,g4,g5,g7,g6⟩:=hH [] S k f o rfl
 have hk:=b3 _ List.mem_cons_self
 have ho:=b4 _ List.mem_cons_self
 simp only at hk ho
 have hdE:dEnd ops k=((p:Int),o):=by
  rw[g6,drop_cons hp,el,if_neg h1,if_neg (fun q=>by rw[h11] at q;exact absurd q.1 (by decide)),if_pos ⟨h11,rfl⟩]
 have hck:Closed ops (p+1) k:=⟨p,o,hdE,g1,by omega,h11,g4,g5,g7⟩
 have hcl:∀j,j<p+1->opn (ops.getD j 0)=true->Closed ops (p+1) j->j<p/\(Closed ops p j\/j=k):=fun j r1 r2 r3=>by
  obtain⟨q1,q2 | ⟨q2,f',o',S2,e⟩⟩:=closed_succ hp h0 r1 r2 r3
  ·exact ⟨q1,.inl q2⟩
  ·simp only[List.cons.injEq,Prod.mk.injEq] at e
   exact⟨q1,.inr e.1.1.symm⟩
 have hlast:(tk1 (ops.getD p 0) n).S.getLast? = some (ops.getD k 0,k):=by
  show n.S.getLast? = _
  rw[I.stk];exact top_last
 have hpw:=List.pairwise_cons.1 I.srt
 have hM:∀q,(endM p k (n.M ++ [(-1,-1)])).getD q (0,0)=if 0<=o/\o=(q:Int) then (-1,(p:Int)) else if k=q then (o,(p:Int)) else (n.M ++ [((-1:Int),(-1:Int))]).getD q (0,0):=by
  intro q
  unfold endM
  rw[hk]
  simp only
  by_cases hn:o = -1
  ·subst hn
   rw[if_pos rfl,if_neg (by omega),getD_setI]
   by_cases e:k=q
   ·subst e;rw[if_pos ⟨rfl,by rw[b1];omega⟩,if_pos rfl]
   ·rw[if_neg (fun h=>e h.1),if_neg e]
  ·have h0o:0<=o:=by
    by_cases h:o<0
    ·exact absurd (g5 h) hn
    ·omega
   rw[if_neg hn]
   have hko:=(g7 h0o).1
   have e1:((n.M ++ [((-1:Int),(-1:Int))]).set k (o,(p:Int))).getD o.toNat (0,0)=(-1,-1):=by
    rw[getD_setI,if_neg (by omega)]
    exact ho h0o
   rw[e1]
   simp only[getD_setI,List.length_set,b1]
   by_cases e:o=(q:Int)
   ·rw[if_pos ⟨by omega,by omega⟩,if_pos ⟨h0o,e⟩]
   ·have a1:¬ (o.toNat=q/\q<p+1):=by omega
    have a2:¬ (0<=o/\o=(q:Int)):=fun h=>e h.2
    rw[if_neg a1,if_neg a2]
    by_cases e:k=q
    ·subst e
     have a3:k=k/\k<p+1:=⟨rfl,by omega⟩
     rw[if_pos a3,if_pos rfl]
    ·have a3:¬ (k=q/\q<p+1):=fun h=>e h.1
     rw[if_neg a3,if_neg e]
 refine⟨⟨endM p k (n.M ++ [(-1,-1)]),n.D ++ [depO (ops.getD p 0) n],n.S.dropLast⟩,?_,?_⟩
 ·unfold tk tkEnd
  rw[if_neg h1,if_neg (by rw[h11];decide),if_pos h11,hlast]
  simp only[I.len]
  rfl
 ·refine ⟨?_,depL_step h0 I hs,?_,hpw.2,fun x hx=>?_,fun x hx hh=>?_,fun j r1 r2 r3=>?_,fun j r1 r2 r3 r4=>?_,fun q r1 r2 r3=>?_⟩
  ·simp only[endM]
   split <;> simp only[List.length_set,b1]
  ·rw[I.stk,List.map_cons,List.reverse_cons,List.dropLast_concat]
  ·simp only[hM]
   have q0:=hpw.1 x hx
   simp only at q0
   obtain⟨S1,S2,e2⟩:=List.append_of_mem hx
   obtain⟨k2,f2,o2⟩:=x
   obtain⟨_,p2,_⟩:=hH ((k,f,o) :: S1) S2 k2 f2 o2 (by rw[e2];rfl)
   rw[if_neg,if_neg (by omega)]
   ·exact b3 _ (List.mem_cons_of_mem _ hx)
   ·rintro ⟨e0,e⟩
    have:=(g7 e0).2
    rw[e,Int.toNat_natCast] at this
    exact(opn_not p2).1 this
  ·simp only[hM]
   have q0:=hpw.1 x hx
   simp only at q0
   rw[if_neg (by have:=g7;omega),if_neg]
   ·exact b4 _ (List.mem_cons_of_mem _ hx) hh
   ·intro e
    omega
  ·obtain ⟨c1,c2⟩:=hcl j r1 r2 r3
   simp only[hM]
   by_cases e:j=k
   ·subst e
    rw[if_neg (by have:=g7;omega),if_pos rfl,hdE]
   ·have c3:Closed ops p j:=by
     rcases c2 with c2 | c2
     ·exact c2
     ·exact absurd c2 e
    rw[if_neg,if_neg (fun q=>e q.symm)]
    ·exact b5 j c1 r2 c3
    ·rintro ⟨e0,e1⟩
     have:=(g7 e0).2
     rw[e1,Int.toNat_natCast] at this
     exact(opn_not r2).1 this
  ·obtain ⟨c1,c2⟩:=hcl j r1 r2 r3
   simp only[hM]
   by_cases e:j=k
   ·subst e
    rw[hdE] at r4 ⊢
    simp only at r4 ⊢
    rw[if_pos ⟨r4,by omega⟩]
   ·have c3:Closed ops p j:=by
     rcases c2 with c2 | c2
     ·exact c2
     ·exact absurd c2 e
    obtain⟨d1,d2⟩:=b6 j c1 r2 c3 r4
    have hE:0<=(dEnd ops j).1:=by
     obtain⟨e',o',q1,_⟩:=c3
     rw[q1]
     simp only
     omega
    rw[if_neg,if_neg]
    ·exact d2
    ·intro e'
     obtain⟨e2,o',q1,q2,q3,q4,q5,q6,q7⟩:=c3
     have:=(q7 (by rw[q1] at r4;exact r4)).2
     rw[q1] at e'
     simp only at e'
     rw[<- e'] at this
     exact(opn_not g2).1 this
    ·rintro ⟨e0,e1⟩
     have:=ho e0
     rw[show o.toNat=(dEnd ops j).2.toNat from by omega,d2] at this
     simp only[Prod.mk.injEq] at this
     omega
  ·simp only[hM]
   have hnk:=r3 k (by omega) g2 hck
   rw[hdE] at hnk
   simp only at hnk
   rw[if_neg (fun h=>hnk h.2),if_neg (fun e=>by subst e;exact r2 g2)]
   exact b7 q r1 r2 fun k r4 r5 r6=>r3 k (by omega) r5 (closed_mono r6 (by omega))
theorem nst_step {ops:List Int}{p:Nat}{S:Stk}{n:Nst}(hp:p<ops.length)(h0:st ops p=some S)(I:NInv ops p S n):match stepS p (ops.getD p 0) S with
  | none=>tk (ops.getD p 0) n=none
  | some S'=>∃n',tk (ops.getD p 0) n=some n'/\NInv ops (p+1) S' n':=by
 by_cases h1:opn (ops.getD p 0)=true
 ·have:=nst_open hp h0 I h1
  unfold stepS
  rw[if_pos h1]
  exact this
 ·by_cases h5:ops.getD p 0=5
  ·have hb:∀ (hh:(match S with | (k,true,o) :: S'=>if o<0 then some ((k,true,(p:Int)) :: S') else (none:Option Stk) | _=>none)=none),tk (ops.getD p 0) n=none:=by
    intro hh
    unfold tk tkTurn
    rw[if_neg h1,if_pos h5]
    show (match n.S.getLast? with | none=>none | some x=>if x.1≠4\/((n.M ++ [(-1,-1)]).getD x.2 (0,0)).1≠-1 then none else some _)=none
    cases S with
    | nil=>rw[I.stk];rfl
    | cons a S=>
     obtain⟨k,f,o⟩:=a
     rw[I.stk,top_last]
     simp only
     rw[if_pos]
     obtain⟨b1,b2,b3,b4,b5,b6,b7⟩:=I.one hp h0
     obtain⟨g1,g2,g3,g4,g5,g7,g6⟩:=held ops (by omega) h0 [] S k f o rfl
     have hk:=b3 _ List.mem_cons_self
     simp only at hk
     rw[hk]
     cases f with
     | false=>
      left
      intro e
      rw[e] at g3
      exact absurd g3 (by decide)
     | true=>
      right
      simp only at hh ⊢
      by_cases ho:o<0
      ·rw[if_pos ho] at hh;cases hh
      ·omega
   cases S with
   | nil=>
    have e:stepS p (ops.getD p 0) []=none:=by unfold stepS;rw[if_neg h1,if_pos h5]
    rw[e]
    exact hb rfl
   | cons a S=>
    obtain⟨k,f,o⟩:=a
    cases f with
    | false=>
     have e:stepS p (ops.getD p 0) ((k,false,o) :: S)=none:=by unfold stepS;rw[if_neg h1,if_pos h5]
     rw[e]
     exact hb rfl
    | true=>
     by_cases ho:o<0
     ·have e:stepS p (ops.getD p 0) ((k,true,o) :: S)=some ((k,true,(p:Int)) :: S):=by unfold stepS;rw[if_neg h1,if_pos h5];simp only;rw[if_pos ho]
      rw[e]
      exact nst_else hp h0 I h5 ho
     ·have e:stepS p (ops.getD p 0) ((k,true,o) :: S)=none:=by unfold stepS;rw[if_neg h1,if_pos h5];simp only;rw[if_neg ho]
      rw[e]
      exact hb (by simp only;rw[if_neg ho])
  ·by_cases h11:ops.getD p 0=11
   ·cases S with
    | nil=>
     have e:stepS p (ops.getD p 0) []=none:=by unfold stepS;rw[if_neg h1,if_neg h5,if_pos h11]
     rw[e]
     show tk (ops.getD p 0) n=none
     unfold tk tkEnd
     rw[if_neg h1,if_neg h5,if_pos h11]
     show (match n.S.getLast? with | none=>none | some x=>_)=none
     rw[I.stk]
     rfl
    | cons a S=>
     obtain⟨k,f,o⟩:=a
     have e:stepS p (ops.getD p 0) ((k,f,o) :: S)=some S:=by unfold stepS;rw[if_neg h1,if_neg h5,if_pos h11]
     rw[e]
     exact nst_end hp h0 I h11
   ·have e:stepS p (ops.getD p 0) S=some S:=by unfold stepS;rw[if_neg h1,if_neg h5,if_neg h11]
    rw[e]
    exact nst_plain hp h0 I h1 h5 h11
theorem nst_inv (ops:List Int):∀p,p<=ops.length->match st ops p with
  | none=>nst ops p=none
  | some S=>∃n,nst ops p=some n/\NInv ops p S n
 | 0,_=>⟨_,rfl,⟨rfl,rfl,rfl,List.Pairwise.nil,fun x hx=>by simp at hx,fun x hx=>by simp at hx,fun k hk=>by omega,fun k hk=>by omega,fun k hk=>by omega⟩⟩
 | p+1,hp=>by
  have ih:=nst_inv ops p (by omega)
  have e1:st ops (p+1)=(st ops p).bind fun S=>stepS p (ops.getD p 0) S:=rfl
  have e2:nst ops (p+1)=(nst ops p).bind fun n=>tk (ops.getD p 0) n:=rfl
  rw[e1,e2]
  cases h0:st ops p with
  | none=>
   rw[h0] at ih
   simp only at ih
   rw[ih]
   rfl
  | some S=>
   rw[h0] at ih
   obtain⟨n,hn,I⟩:=ih
   rw[hn]
   exact nst_step (by omega) h0 I
theorem nst_nested {ops:List Int}{n:Nst}(h:nst ops ops.length=some n):(n.S = []↔Nested ops):=by
 have I:=nst_inv ops ops.length (Nat.le_refl _)
 cases h0:st ops ops.length with
 | none=>rw[h0] at I;simp only at I;rw[I] at h;cases h
 | some S=>
  rw[h0] at I
  obtain⟨n',hn,I⟩:=I
  rw[h] at hn
  obtain rfl:=Option.some.inj hn
  unfold Nested
  rw[h0,I.stk]
  constructor
  ·intro e
   have:S = []:=by simpa using e
   rw[this]
  ·intro e
   have:S = []:=Option.some.inj e
   rw[this]
   rfl
theorem nst_none {ops:List Int}(h:nst ops ops.length=none):¬ Nested ops:=by
 intro hN
 have I:=nst_inv ops ops.length (Nat.le_refl _)
 rw[show st ops ops.length=some [] from hN] at I
 obtain⟨n,hn,_⟩:=I
 rw[h] at hn
 cases hn
theorem nst_all {ops:List Int}(h:Nested ops):∃ms,dM ops=some ms/\nst ops ops.length=some ⟨ms,depL ops ops.length,[]⟩:=by
 obtain⟨s,hs⟩:=m2_some h ops.length (Nat.le_refl _)
 have hi:=m2_inv ops _ s (Nat.le_refl _) hs
 obtain⟨out,ho⟩:=dM_some h
 have hos:out=s.1:=by
  unfold dM at ho
  rw[hs] at ho
  have ho:(if usedOk ops s.2 then some s.1 else none)=some out:=ho
  split at ho
  ·exact (Option.some.inj ho).symm
  ·cases ho
 subst hos
 refine⟨_,ho,?_⟩
 have I:=nst_inv ops ops.length (Nat.le_refl _)
 rw[show st ops ops.length=some [] from h] at I
 obtain⟨n,hn,I⟩:=I
 rw[hn]
 obtain⟨M,D,S⟩:=n
 have e1:M=s.1:=by
  apply List.ext_getElem
  ·exact I.len.trans hi.len1.symm
  ·intro q hq1 hq2
   have hq:q<ops.length:=by have:=I.len;simp only at this;omega
   have a1:M.getD q (0,0)=M[q]:=by rw[List.getD_eq_getElem?_getD,List.getElem?_eq_getElem hq1];rfl
   have a2:s.1.getD q (-1,-1)=s.1[q]:=by rw[List.getD_eq_getElem?_getD,List.getElem?_eq_getElem hq2];rfl
   rw[<- a1,<- a2]
   by_cases hop:opn (ops.getD q 0)=true
   ·rw[hi.o1 q hq hq hop]
    exact I.cls q hq hop (nested_closed h hq hop)
   ·by_cases hex:∃j,IsElse ops ops.length q j
    ·obtain ⟨j,hj,hv⟩:=hi.o2 q hq hex
     rw[hv]
     have:=I.ces j hj.1 hj.2.1 (nested_closed h hj.1 hj.2.1) (by rw[hj.2.2];omega)
     rw[hj.2.2,Int.toNat_natCast] at this
     exact this
    ·rw[hi.o3 q hq (fun q=>absurd q hop) hex]
     exact I.oth q hq hop fun k k1 k2 k3 k4=>hex ⟨k,k1,k2,k4⟩
 have e2:D=depL ops ops.length:=I.dep
 have e3:S = []:=by have:=I.stk;simpa using this
 rw[e1,e2,e3]
end Go.Proofs.YtlappkflnlbfcaaGreatDoor.Bod
end
section
namespace Go.Proofs.YtlappkflnlbfcaaGreatDoor.Bod
open Go.RowKit Ints Typ Ins
set_option maxRecDepth 100000
set_option maxHeartbeats 1000000
set_option linter.unusedVariables false
theorem run_oneI (W:World)(ty:TypeId)(B:Nat)(v:Value)(done:List Int)(y:Int)(hown:OwnI W B v done)(A:Addr)(hA:W.cell? (A.add 0)=some (.int .i64 y))(hlen:done.length<=10000000)(hB:B<=W.heap.size):
  ∃v' w',(Builtin.append_ #[23,23] ty #[v,.slice (some A) 1 1]).run Tryz.prog W= .ok v' w'/\OwnI w' B v' (done ++ [y])/\W.grownBy w' v.ownBlock/\(v'.ownBlock=v.ownBlock\/∃g,v'.ownBlock=some g/\W.heap.size<=g):=by
 obtain⟨i0,hi,hz0,hz1,hz2⟩:=info_parts int_info
 have hnews:∀j u,[Value.int .i64 y][j]? = some u->W.cell? (A.add j)=some u:=by
  intro j u hu
  cases j with
  | zero=>simp at hu;subst hu;exact hA
  | succ j=>simp at hu
 have h1:∀u∈[Value.int .i64 y],u.oneCell'=true:=by intro u hu;simp at hu;subst hu;rfl
 obtain⟨v',w',hr,h2,h3,_⟩:=run_append_own (P:=Tryz.prog) W B 23 ty 3 i0 (.int .i64 0) 1 8 Tryz.underlying23 hi hz0 hz1 hz2 rfl (by decide) v _ _ hown A 1 1 [.int .i64 y] rfl hnews h1 (by simp only[maxLen];omega) (by omega) hB
 refine⟨v',w',hr,?_,h3,?_⟩
 ·have:w'.ownsRow B 3 1 v' (done ++ [y]).length (vi (done ++ [y])):=by simpa [vi] using h2
  exact this
 ·rcases hown.2 with ⟨rfl,hn⟩ | ⟨g,cap,cur,rfl,hbg,hg,hnc,hcm,hcs,htake⟩
  ·right
   have hd:done = []:=List.length_eq_zero_iff.1 hn
   subst hd
   obtain⟨v2,w2,hr2,k2,_,_⟩:=run_append_own (P:=Tryz.prog) W W.heap.size 23 ty 3 i0 (.int .i64 0) 1 8 Tryz.underlying23 hi hz0 hz1 hz2 rfl (by decide) (.slice none 0 0) 0 [] (World.ownsRow_nil W W.heap.size 3 1) A 1 1 [.int .i64 y] rfl hnews h1 (by simp only[maxLen];omega) (by omega) (Nat.le_refl _)
   rw[hr] at hr2
   injection hr2 with e1 e2
   subst e1
   rcases k2.2 with ⟨_,h0⟩ | ⟨g,cap,cur,hv,hbg,_⟩
   ·exact absurd h0 (by decide)
   ·exact ⟨g,by rw[hv];rfl,hbg⟩
  ·by_cases hroom:done.length+1<=cap
   ·left
    obtain⟨w2,hr2,_⟩:=run_append_fits (P:=Tryz.prog) W B 23 ty 3 i0 1 Tryz.underlying23 hi hz1 g done.length cap (vi done) hown A 1 1 [.int .i64 y] rfl hnews h1 hroom
    rw[hr] at hr2
    injection hr2 with e1 e2
    rw[e1]
    rfl
   ·right
    have hr2:=run_append_grow (P:=Tryz.prog) W 23 ty 3 i0 (.int .i64 0) Tryz.underlying23 hi hz0 ⟨g,0,none⟩ done.length cap (vi done) (by rw[hz1];simp[vi]) (World.ownsRow.cells hown (g:=g) rfl) A 1 1 [.int .i64 y] (by rw[hz1];rfl) hnews (by omega) (by omega) (growslice_fits (by omega) (by rw[hz2];omega))
    rw[hr] at hr2
    injection hr2 with e1 e2
    exact⟨W.heap.size,by rw[e1];rfl,Nat.le_refl _⟩
end Go.Proofs.YtlappkflnlbfcaaGreatDoor.Bod
end
