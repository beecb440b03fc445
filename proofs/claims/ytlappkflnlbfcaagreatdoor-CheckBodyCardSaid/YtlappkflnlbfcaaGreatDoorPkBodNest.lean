/- BodMath, BodEnd, BodNest. -/
import Derived.Test.YtlappkflnlbfcaaGreatDoorPkLebTwo
import Derived.Test.YtlappkflnlbfcaaGreatDoorPkInsStab
section
namespace Go.Proofs.YtlappkflnlbfcaaGreatDoor.Bod
open Lib (hid)
set_option maxRecDepth 100000
set_option maxHeartbeats 1000000
set_option linter.unusedVariables false
def opn (op:Int):Bool:=decide (2<=op) && decide (op<=4)
def el (isIf:Bool):List Int->Nat->Nat->Int->Int×Int
 | [],_,_,_=>(-1,-1)
 | op :: r,k,d,o=>
  if opn op then el isIf r (k+1) (d+1) o
  else if op=5/\d=0 then (if 0<=o\/isIf=false then (-1,-1) else el isIf r (k+1) 0 (k:Int))
  else if op=11/\d=0 then ((k:Int),o)
  else if op=11 then el isIf r (k+1) (d - 1) o
  else el isIf r (k+1) d o
def dEnd (ops:List Int)(k:Nat):Int×Int:=el (ops.getD k 0 == 4) (ops.drop (k+1)) (k+1) 0 (-1)
abbrev Stk:=List (Nat×Bool×Int)
def stepS (p:Nat)(op:Int)(S:Stk):Option Stk:=
 if opn op then some ((p,op == 4,-1) :: S)
 else if op=5 then match S with
  | (k,true,o) :: S'=>if o<0 then some ((k,true,(p:Int)) :: S') else none
  | _=>none
 else if op=11 then match S with
  | _ :: S'=>some S'
  | []=>none
 else some S
def st (ops:List Int):Nat->Option Stk
 | 0=>some []
 | p+1=>(st ops p).bind fun S=>stepS p (ops.getD p 0) S
theorem drop_cons {ops:List Int}{p:Nat}(h:p<ops.length):ops.drop p=ops.getD p 0 :: ops.drop (p+1):=by
 rw[List.drop_eq_getElem_cons h,List.getD_eq_getElem?_getD,List.getElem?_eq_getElem h]
 rfl
theorem st_succ {ops:List Int}{p:Nat}{S S':Stk}(h:st ops p=some S)(h':st ops (p+1)=some S'):stepS p (ops.getD p 0) S=some S':=by
 have:st ops (p+1)=(st ops p).bind fun S=>stepS p (ops.getD p 0) S:=rfl
 rw[this,h] at h'
 exact h'
theorem st_before {ops:List Int}{p:Nat}{S':Stk}(h':st ops (p+1)=some S'):∃S,st ops p=some S:=by
 have:st ops (p+1)=(st ops p).bind fun S=>stepS p (ops.getD p 0) S:=rfl
 rw[this] at h'
 cases h:st ops p with
 | none=>rw[h] at h';cases h'
 | some S=>exact ⟨S,rfl⟩
theorem st_le {ops : List Int} : ∀ {p : Nat} {S : Stk}, st ops p = some S → ∀ {q : Nat}, q ≤ p → ∃ S', st ops q = some S'
  | 0, S, h, q, hq => by obtain rfl : q = 0 := by omega
                         exact ⟨S, h⟩
  | p + 1, S, h, q, hq => by
    by_cases e : q = p + 1
    · subst e; exact ⟨S, h⟩
    · obtain ⟨S1, h1⟩ := st_before h
      exact st_le h1 (by omega)
def Held (ops:List Int)(p:Nat)(S:Stk):Prop:=
 ∀ (S1 S2:Stk) (k:Nat) (f:Bool) (o:Int),S=S1 ++ (k,f,o) :: S2->k<p/\opn (ops.getD k 0)=true/\f=(ops.getD k 0 == 4)/\o<(p:Int)/\(o<0->o = -1)/\(0<=o->(k:Int)<o/\ops.getD o.toNat 0=5)/\dEnd ops k=el f (ops.drop p) p S1.length o
theorem opn_not {op:Int}(h:opn op=true):op≠5/\op≠11:=by
 unfold opn at h
 simp at h
 omega
theorem held_step {ops:List Int}{p:Nat}{S S':Stk}(hp:p<ops.length)(hH:Held ops p S)(h:stepS p (ops.getD p 0) S=some S'):Held ops (p+1) S':=by
 have hd:=drop_cons hp
 unfold stepS at h
 by_cases h1:opn (ops.getD p 0)=true
 ·rw[if_pos h1] at h
  obtain rfl:=Option.some.inj h
  intro S1 S2 k f o e
  cases S1 with
  | nil=>
   simp only[List.nil_append,List.cons.injEq,Prod.mk.injEq] at e
   obtain⟨⟨rfl,rfl,rfl⟩,rfl⟩:=e
   exact⟨by omega,h1,rfl,by omega,fun _=>rfl,fun hh=>absurd hh (by omega),rfl⟩
  | cons a S1=>
   simp only[List.cons_append,List.cons.injEq] at e
   obtain⟨rfl,e⟩:=e
   obtain⟨g1,g2,g3,g4,g5,g7,g6⟩:=hH S1 S2 k f o e
   refine⟨by omega,g2,g3,by omega,g5,g7,?_⟩
   rw[g6,hd,el,if_pos h1]
   rfl
 ·rw[if_neg h1] at h
  by_cases h2:ops.getD p 0=5
  ·rw[if_pos h2] at h
   cases S with
   | nil=>cases h
   | cons a S=>
    obtain⟨k0,f0,o0⟩:=a
    cases f0 with
    | false=>cases h
    | true=>
     simp only at h
     by_cases h3:o0<0
     ·rw[if_pos h3] at h
      obtain rfl:=Option.some.inj h
      intro S1 S2 k f o e
      cases S1 with
      | nil=>
       simp only[List.nil_append,List.cons.injEq,Prod.mk.injEq] at e
       obtain⟨⟨rfl,rfl,rfl⟩,rfl⟩:=e
       obtain⟨g1,g2,g3,g4,g5,g7,g6⟩:=hH [] S k0 true o0 rfl
       refine⟨by omega,g2,g3,by omega,fun hh=>by omega,fun _=>⟨by omega,by rw[Int.toNat_natCast];exact h2⟩,?_⟩
       rw[g6,hd,el,if_neg h1,if_pos ⟨h2,rfl⟩,if_neg (by simp;omega)]
       rfl
      | cons b S1=>
       simp only[List.cons_append,List.cons.injEq] at e
       obtain⟨rfl,e⟩:=e
       obtain⟨g1,g2,g3,g4,g5,g7,g6⟩:=hH ((k0,true,o0) :: S1) S2 k f o (by rw[e];rfl)
       refine⟨by omega,g2,g3,by omega,g5,g7,?_⟩
       rw[g6,hd,el,if_neg h1,if_neg (by simp),if_neg (by simp),if_neg (by omega)]
       rfl
     ·rw[if_neg h3] at h;cases h
  ·rw[if_neg h2] at h
   by_cases h3:ops.getD p 0=11
   ·rw[if_pos h3] at h
    cases S with
    | nil=>cases h
    | cons a S=>
     simp only at h
     obtain rfl:=Option.some.inj h
     intro S1 S2 k f o e
     obtain⟨g1,g2,g3,g4,g5,g7,g6⟩:=hH (a :: S1) S2 k f o (by rw[e];rfl)
     refine⟨by omega,g2,g3,by omega,g5,g7,?_⟩
     rw[g6,hd,el,if_neg h1,if_neg (by simp),if_neg (by simp),if_pos h3]
     rfl
   ·rw[if_neg h3] at h
    obtain rfl:=Option.some.inj h
    intro S1 S2 k f o e
    obtain⟨g1,g2,g3,g4,g5,g7,g6⟩:=hH S1 S2 k f o e
    refine⟨by omega,g2,g3,by omega,g5,g7,?_⟩
    rw[g6,hd,el,if_neg h1,if_neg (fun q=>h2 q.1),if_neg (fun q=>h3 q.1),if_neg h3]
theorem held (ops:List Int):∀ {p:Nat} {S:Stk},p<=ops.length->st ops p=some S->Held ops p S
 | 0,S,_,h=>by
  obtain rfl:=Option.some.inj h
  intro S1 S2 k f o e
  cases S1 <;> simp at e
 | p+1,S,hp,h=>by
  obtain⟨S0,h0⟩:=st_before h
  exact held_step (by omega) (held ops (by omega) h0) (st_succ h0 h)
def Closed (ops:List Int)(p k:Nat):Prop:=∃ (e:Nat) (o:Int),dEnd ops k=((e:Int),o)/\k<e/\e<p/\ops.getD e 0=11/\o<(e:Int)/\(o<0->o = -1)/\(0<=o->(k:Int)<o/\ops.getD o.toNat 0=5)
theorem closed_mono {ops:List Int}{p q k:Nat}(h:Closed ops p k)(hq:p<=q):Closed ops q k:=by
 obtain⟨e,o,h1,h2,h3,h4⟩:=h
 exact⟨e,o,h1,h2,by omega,h4⟩
theorem open_or_closed (ops:List Int):∀ {p:Nat} {S:Stk},p<=ops.length->st ops p=some S->∀k,k<p->opn (ops.getD k 0)=true->(∃f o,(k,f,o)∈S)\/Closed ops p k
 | 0,S,_,_,k,hk,_=>by omega
 | p+1,S,hp,h,k,hk,ho=>by
  obtain⟨S0,h0⟩:=st_before h
  have hs:=st_succ h0 h
  have hH:=held ops (by omega) h0
  have hd:=drop_cons (ops:=ops) (p:=p) (by omega)
  unfold stepS at hs
  by_cases h1:opn (ops.getD p 0)=true
  ·rw[if_pos h1] at hs
   obtain rfl:=Option.some.inj hs
   by_cases e:k=p
   ·subst e
    exact .inl ⟨_,_,List.mem_cons_self⟩
   ·rcases open_or_closed ops (by omega) h0 k (by omega) ho with ⟨f,o,hm⟩ | hc
    ·exact .inl ⟨f,o,List.mem_cons_of_mem _ hm⟩
    ·exact .inr (closed_mono hc (by omega))
  ·have hkp:k≠p:=fun e=>h1 (e ▸ ho)
   have ih:=open_or_closed ops (by omega) h0 k (by omega) ho
   rw[if_neg h1] at hs
   by_cases h2:ops.getD p 0=5
   ·rw[if_pos h2] at hs
    cases S0 with
    | nil=>cases hs
    | cons a S1=>
     obtain⟨k0,f0,o0⟩:=a
     cases f0 with
     | false=>cases hs
     | true=>
      simp only at hs
      by_cases h3:o0<0
      ·rw[if_pos h3] at hs
       obtain rfl:=Option.some.inj hs
       rcases ih with ⟨f,o,hm⟩ | hc
       ·rcases List.mem_cons.1 hm with e | hm
        ·simp only[Prod.mk.injEq] at e
         obtain⟨rfl,_,_⟩:=e
         exact .inl ⟨_,_,List.mem_cons_self⟩
        ·exact .inl ⟨f,o,List.mem_cons_of_mem _ hm⟩
       ·exact .inr (closed_mono hc (by omega))
      ·rw[if_neg h3] at hs;cases hs
   ·rw[if_neg h2] at hs
    by_cases h3:ops.getD p 0=11
    ·rw[if_pos h3] at hs
     cases S0 with
     | nil=>cases hs
     | cons a S1=>
      simp only at hs
      obtain rfl:=Option.some.inj hs
      rcases ih with ⟨f,o,hm⟩ | hc
      ·rcases List.mem_cons.1 hm with e | hm
       ·subst e
        obtain⟨g1,g2,g3,g4,g5,g7,g6⟩:=hH [] S1 k f o rfl
        refine .inr ⟨p,o,?_,g1,by omega,h3,g4,g5,g7⟩
        rw[g6,hd,el,if_neg h1,if_neg (fun q=>h2 q.1),if_pos ⟨h3,rfl⟩]
       ·exact .inl ⟨f,o,hm⟩
      ·exact .inr (closed_mono hc (by omega))
    ·rw[if_neg h3] at hs
     obtain rfl:=Option.some.inj hs
     rcases ih with ⟨f,o,hm⟩ | hc
     ·exact .inl ⟨f,o,hm⟩
     ·exact .inr (closed_mono hc (by omega))
def Nested (ops:List Int):Prop:=st ops ops.length=some []
theorem nested_closed {ops:List Int}(h:Nested ops){k:Nat}(hk:k<ops.length)(ho:opn (ops.getD k 0)=true):Closed ops ops.length k:=by
 rcases open_or_closed ops (Nat.le_refl _) h k hk ho with ⟨f,o,hm⟩ | hc
 ·simp at hm
 ·exact hc
theorem el_facts (f:Bool):∀ (r:List Int) (k d:Nat) (o:Int),o<(k:Int)->(el f r k d o=(-1,-1))\/∃ (e:Nat) (o':Int),el f r k d o=((e:Int),o')/\k<=e/\e<k+r.length/\r.getD (e - k) 0=11/\o'<(e:Int)/\(o'=o\/(o<0/\f=true/\(k:Int)<=o'/\r.getD (o'.toNat - k) 0=5))/\(0<=o->o'=o)
 | [],_,_,_,_=>.inl rfl
 | op :: r,k,d,o,hlt=>by
  have lift:∀ (d':Nat) (o1:Int),o1<((k+1:Nat):Int)->(o1=o\/(o<0/\f=true/\o1=(k:Int)/\op=5))->(0<=o->o1=o)->el f (op :: r) k d o=el f r (k+1) d' o1->(el f (op :: r) k d o=(-1,-1))\/∃ (e:Nat) (o':Int),el f (op :: r) k d o=((e:Int),o')/\k<=e/\e<k+(op :: r).length/\(op :: r).getD (e - k) 0=11/\o'<(e:Int)/\(o'=o\/(o<0/\f=true/\(k:Int)<=o'/\(op :: r).getD (o'.toNat - k) 0=5))/\(0<=o->o'=o):=by
   intro d' o1 h1 h2 h3 he
   rw[he]
   rcases el_facts f r (k+1) d' o1 h1 with h | ⟨e,o',e1,e2,e3,e4,e5,e6,e7⟩
   ·exact .inl h
   ·refine .inr ⟨e,o',e1,by omega,by rw[List.length_cons];omega,?_,e5,?_,?_⟩
    ·rw[show e - k=(e - (k+1))+1 from by omega,List.getD_cons_succ];exact e4
    ·rcases e6 with rfl | ⟨g1,g2,g3,g4⟩
     ·rcases h2 with rfl | ⟨q1,q2,q3,q4⟩
      ·exact .inl rfl
      ·exact .inr ⟨q1,q2,by omega,by rw[q3,Int.toNat_natCast,Nat.sub_self];exact q4⟩
     ·refine .inr ⟨?_,g2,by omega,?_⟩
      ·rcases h2 with rfl | ⟨q1,_⟩
       ·exact g1
       ·exact q1
      ·rw[show o'.toNat - k=(o'.toNat - (k+1))+1 from by omega,List.getD_cons_succ];exact g4
    ·intro h0
     rw[h3 h0] at e7
     exact e7 h0
  by_cases h1:opn op=true
  ·exact lift (d+1) o (by omega) (.inl rfl) (fun _=>rfl) (by rw[el,if_pos h1])
  ·by_cases h2:op=5/\d=0
   ·by_cases h3:0<=o\/f=false
    ·left
     rw[el,if_neg h1,if_pos h2,if_pos h3]
    ·have h4:o<0/\f=true:=⟨by omega,by cases f <;> simp_all⟩
     exact lift 0 (k:Int) (by omega) (.inr ⟨h4.1,h4.2,rfl,h2.1⟩) (fun h0=>by omega) (by rw[el,if_neg h1,if_pos h2,if_neg h3])
   ·by_cases h3:op=11/\d=0
    ·right
     refine⟨k,o,by rw[el,if_neg h1,if_neg h2,if_pos h3],Nat.le_refl _,by rw[List.length_cons];omega,by rw[Nat.sub_self];exact h3.1,hlt,.inl rfl,fun _=>rfl⟩
    ·by_cases h4:op=11
     ·exact lift (d - 1) o (by omega) (.inl rfl) (fun _=>rfl) (by rw[el,if_neg h1,if_neg h2,if_neg h3,if_pos h4])
     ·exact lift d o (by omega) (.inl rfl) (fun _=>rfl) (by rw[el,if_neg h1,if_neg h2,if_neg h3,if_neg h4])
theorem dEnd_facts {ops:List Int}{k:Nat}(hk:k<ops.length):dEnd ops k=(-1,-1)\/∃ (e:Nat) (o:Int),dEnd ops k=((e:Int),o)/\k<e/\e<ops.length/\ops.getD e 0=11/\o<(e:Int)/\(o = -1\/((ops.getD k 0 == 4)=true/\(k:Int)<o/\ops.getD o.toNat 0=5)):=by
 have hg:∀j,k+1<=j->(ops.drop (k+1)).getD (j - (k+1)) 0=ops.getD j 0:=fun j hj=>by
  rw[List.getD_eq_getElem?_getD,List.getElem?_drop,show k+1+(j - (k+1))=j from by omega,<- List.getD_eq_getElem?_getD]
 rcases el_facts (ops.getD k 0 == 4) (ops.drop (k+1)) (k+1) 0 (-1) (by omega) with h | ⟨e,o,h1,h2,h3,h4,h5,h6,_⟩
 ·exact .inl h
 ·refine .inr ⟨e,o,h1,by omega,by rw[List.length_drop] at h3;omega,by rw[<- hg e h2];exact h4,h5,?_⟩
  rcases h6 with h6 | ⟨_,g2,g3,g4⟩
  ·exact .inl h6
  ·exact .inr ⟨g2,by omega,by rw[<- hg o.toNat (by omega)];exact g4⟩
end Go.Proofs.YtlappkflnlbfcaaGreatDoor.Bod
end
section
namespace Go.Proofs.YtlappkflnlbfcaaGreatDoor.Bod
open Lib (hid)
open Go.RowKit Ints Typ Ins
set_option maxRecDepth 100000
set_option maxHeartbeats 1000000
set_option linter.unusedVariables false
def opsL (l:List (Ins×Value)):List Int:=l.map fun p=>p.1.op
theorem opsL_len (l:List (Ins×Value)):(opsL l).length=l.length:=by simp[opsL]
theorem opsL_get {l:List (Ins×Value)}{j:Nat}{p:Ins×Value}(h:l[j]? = some p):(opsL l).getD j 0=p.1.op:=by
 unfold opsL
 rw[List.getD_eq_getElem?_getD,List.getElem?_map,h]
 rfl
theorem opens_core (op A B K:Int)(P:Option Addr)(n c:Nat)(w:World)(b1 b2:Bool)(h1:decide (2<=op)=b1)(h2:decide (op<=4)=b2):Calls Tryz.prog 79 #[.agg #[.int .i64 op,.int .i64 A,.int .i64 B,.int .u64 K,.slice P n c]] w fun e w'=>e= .returned (.bool (b1 && b2))/\Below w.heap.size w w':=by
 have HA1:=hid ((Below.refl w.heap.size w).alloc (Nat.le_refl _) (.cells #[.int .i64 op,.int .i64 A,.int .i64 B,.int .u64 K,.slice P n c] 33))
 cases b1 with
 | false=>
  clear h2
  go_enter Tryz.func79,Tryz.ntmps79
  go_wp2_with fail
  exact bodyPost_ret (v:=.bool false) (by simp[results,Tryz.results79,go_sem]) rfl ⟨by simp,HA1.out⟩
 | true=>
  go_enter Tryz.func79,Tryz.ntmps79
  go_wp2_with fail
  exact bodyPost_ret (v:=.bool b2) (by simp[results,Tryz.results79,go_sem]) rfl ⟨by simp,HA1.out⟩
theorem opens_any (op A B K:Int)(P:Option Addr)(n c:Nat)(w:World):Calls Tryz.prog 79 #[.agg #[.int .i64 op,.int .i64 A,.int .i64 B,.int .u64 K,.slice P n c]] w fun e w'=>e= .returned (.bool (opn op))/\Below w.heap.size w w':=opens_core op A B K P n c w _ _ rfl rfl
theorem at_cells {W:World}{g off n c:Nat}{l:List (Ins×Value)}(h:InRow W (.slice (some ⟨g,off,none⟩) n c) l){j:Nat}{p:Ins×Value}(hj:l[j]? = some p):InCells W g (off+j*5) p:=by
 obtain⟨g',off',e,h1,_⟩:=h.at_ hj
 injection e with e
 injection e with e1 e2
 subst e1 e2
 exact h1
theorem end_any {l:List (Ins×Value)}{g off n c:Nat}{w:World}(hn:l.length=n)(hr:InRow w (.slice (some ⟨g,off,none⟩) n c) l)(a:Nat)(ha:a<n):
  Calls Tryz.prog 80 #[.slice (some ⟨g,off,none⟩) n c,.int .i64 (a:Int)] w fun e w'=>e= .returned (.tuple #[.int .i64 (dEnd (opsL l) a).1,.int .i64 (dEnd (opsL l) a).2])/\Below w.heap.size w w':=by
 have hbig:n<=9223372036854775807:=by
  obtain⟨⟨A,c',h1,h2,h3,_⟩,_⟩:=id hr
  injection h1 with _ h4 h5
  omega
 have HR:=hid hr
 have HN:=hid hn
 obtain⟨pa,hpa⟩:∃p,l[a]? = some p:=⟨_,List.getElem?_eq_getElem (by omega)⟩
 have HPA:=hid hpa
 have HF:Hid (((opsL l).getD a 0 == 4)=(pa.1.op == 4)):=by show _=_;rw[opsL_get hpa]
 have hw0:IntKind.i64.wrap ((a:Int)+1)=(a:Int)+1:=IntWalk.i64_in _ (by omega)
 have HRes:Hid (el (pa.1.op == 4) ((opsL l).drop (a+1)) (a+1) 0 (-1)=dEnd (opsL l) a):=by show _=_;unfold dEnd;rw[HF.out]
 generalize dEnd (opsL l) a=res at *
 have hin3:(0:Int)<=(a:Int):=by omega
 have hin4:(a:Int)<(n:Int):=by omega
 clear hr hn hpa
 go_enter Tryz.func80,Tryz.ntmps80
 go_wp2_with fail
 go_loopw [6,7,8] (fun d' o' j' wr=>∃ (j d:Nat) (o:Int),j'= .int .i64 (j:Int)/\d'= .int .i64 (d:Int)/\o'= .int .i64 o/\j<=n/\d<=j/\a<j/\o<(j:Int)/\-1<=o/\el (pa.1.op == 4) ((opsL l).drop j) j d o=res/\Below w.heap.size w wr) (fun _ _ j' _=>n - (intOf j').toNat)
 case atStart=>exact ⟨a+1,0,-1,by go_num,rfl,rfl,by omega,Nat.zero_le _,by omega,by omega,by omega,HRes.out,Below.refl _ _⟩
 case round=>
  clear HRes hw0
  obtain⟨j,d,o,rfl,rfl,rfl,hj,hd,haj,ho,ho1,hel,hW⟩:=hrel
  have HEL:=hid hel
  have HWr:=hid hW
  clear hel hW
  by_cases hlt:j<n
  ·obtain ⟨p,hp⟩:∃p,l[j]? = some p:=⟨_,List.getElem?_eq_getElem (by rw[HN.out];exact hlt)⟩
   have hOk:=HR.out.2 _ (List.mem_of_getElem? hp)
   obtain⟨PL,cL,hpo,_⟩:=id hOk.1
   have HCj:=hid (at_cells (HR.out.keep HWr.out) hp)
   have HPj:=hid hp
   have HE2:=HEL.out
   rw[drop_cons (by rw[opsL_len,HN.out];exact hlt),opsL_get hp,el] at HE2
   obtain⟨x,ov⟩:=p
   simp only at hpo HE2
   obtain⟨nL,hnL⟩:∃nL,x.L.length=nL:=⟨_,rfl⟩
   rw[hnL] at hpo
   subst hpo
   clear hOk hp hnL
   obtain⟨q1,q2,q3,q4,q5⟩:=HCj.out
   simp only at q1 q2 q3 q4 q5
   have hin1:(0:Int)<=(j:Int):=by omega
   have hin2:(j:Int)<(n:Int):=by omega
   have hw1:IntKind.i64.wrap ((j:Int)+1)=(j:Int)+1:=IntWalk.i64_in _ (by omega)
   by_cases hop:opn x.op=true
   ·rw[if_pos hop] at HE2
    have HX:=hid HE2
    clear HE2
    have hw2:IntKind.i64.wrap ((d:Int)+1)=(d:Int)+1:=IntWalk.i64_in _ (by omega)
    have HOP:Hid (∀W,Calls Tryz.prog 79 #[.agg #[.int .i64 x.op,.int .i64 x.A,.int .i64 x.B,.int .u64 x.K,.slice PL nL cL]] W fun e w'=>e= .returned (.bool true)/\Below W.heap.size W w'):=fun W=>by have:=opens_any x.op x.A x.B x.K PL nL cL W;rwa [hop] at this
    clear hop
    try clear h4'
    try clear h4
    try clear h50
    try clear h110
    try clear h11
    try clear h5
    try clear h0
    go_wp2_with fail
    refine(HOP.out _).mono ?_
    rintro e w2 ⟨rfl,hb⟩
    have HW2:=hid (HWr.out.trans (hb.mono HWr.out.size))
    clear hb q1 q2 q3 q4 q5
    obtain⟨q1,q2,q3,q4,q5⟩:=at_cells (HR.out.keep HW2.out) HPj.out
    obtain⟨r1,r2,r3,r4,r5⟩:=at_cells (HR.out.keep HW2.out) HPA.out
    simp only at q1 q2 q3 q4 q5
    go_wp2_with fail
    go_roundw
    case rel=>exact ⟨j+1,d+1,o,by go_num,by go_num,by first | rfl | go_num,hlt,by omega,by omega,by omega,by omega,HX.out,HW2.out⟩
    case measure=>simp[intOf];omega
   ·rw[if_neg hop] at HE2
    have hop:opn x.op=false:=by simpa using hop
    have HOP:Hid (∀W,Calls Tryz.prog 79 #[.agg #[.int .i64 x.op,.int .i64 x.A,.int .i64 x.B,.int .u64 x.K,.slice PL nL cL]] W fun e w'=>e= .returned (.bool false)/\Below W.heap.size W w'):=fun W=>by have:=opens_any x.op x.A x.B x.K PL nL cL W;rwa [hop] at this
    clear hop
    by_cases h50:x.op=5/\d=0
    ·obtain ⟨h5,rfl⟩:=h50
     rw[if_pos ⟨h5,rfl⟩] at HE2
     have t1:(x.op == 5)=true:=by simpa using h5
     by_cases h0:0<=o
     ·rw[if_pos (.inl h0)] at HE2
      have HX:=hid HE2
      clear HE2
      have t3:decide ((0:Int)<=o)=true:=decide_eq_true h0
      try clear h4'
      try clear h4
      try clear h50
      try clear h110
      try clear h11
      try clear h5
      try clear h0
      go_wp2_with fail
      refine(HOP.out _).mono ?_
      rintro e w2 ⟨rfl,hb⟩
      have HW2:=hid (HWr.out.trans (hb.mono HWr.out.size))
      clear hb q1 q2 q3 q4 q5
      obtain⟨q1,q2,q3,q4,q5⟩:=at_cells (HR.out.keep HW2.out) HPj.out
      obtain⟨r1,r2,r3,r4,r5⟩:=at_cells (HR.out.keep HW2.out) HPA.out
      simp only at q1 q2 q3 q4 q5
      go_wp2_with fail
      rw[<- HX.out]
      exact bodyPost_ret (v:=.tuple #[.int .i64 (-1),.int .i64 (-1)]) (by simp[results,Tryz.results80,go_sem]) rfl ⟨rfl,HW2.out⟩
     ·by_cases h4:pa.1.op=4
      ·have h4':(pa.1.op == 4)=true:=by simpa using h4
       rw[if_neg (fun hh=>hh.elim h0 (fun h5=>by rw[h4'] at h5;cases h5))] at HE2
       have HX:=hid HE2
       clear HE2
       have t3:decide ((0:Int)<=o)=false:=decide_eq_false h0
       have t4:(pa.1.op != 4)=false:=by simpa using h4
       try clear h4'
       try clear h4
       try clear h50
       try clear h110
       try clear h11
       try clear h5
       try clear h0
       go_wp2_with fail
       refine(HOP.out _).mono ?_
       rintro e w2 ⟨rfl,hb⟩
       have HW2:=hid (HWr.out.trans (hb.mono HWr.out.size))
       clear hb q1 q2 q3 q4 q5
       obtain⟨q1,q2,q3,q4,q5⟩:=at_cells (HR.out.keep HW2.out) HPj.out
       obtain⟨r1,r2,r3,r4,r5⟩:=at_cells (HR.out.keep HW2.out) HPA.out
       simp only at q1 q2 q3 q4 q5
       go_wp2_with fail
       go_roundw
       case rel=>exact ⟨j+1,0,(j:Int),by go_num,by go_num,by first | rfl | go_num,hlt,by omega,by omega,by omega,by omega,HX.out,HW2.out⟩
       case measure=>simp[intOf];omega
      ·have h4':(pa.1.op == 4)=false:=by simpa using h4
       rw[if_pos (.inr h4')] at HE2
       have HX:=hid HE2
       clear HE2
       have t3:decide ((0:Int)<=o)=false:=decide_eq_false h0
       have t4:(pa.1.op != 4)=true:=by simpa using h4
       try clear h4'
       try clear h4
       try clear h50
       try clear h110
       try clear h11
       try clear h5
       try clear h0
       go_wp2_with fail
       refine(HOP.out _).mono ?_
       rintro e w2 ⟨rfl,hb⟩
       have HW2:=hid (HWr.out.trans (hb.mono HWr.out.size))
       clear hb q1 q2 q3 q4 q5
       obtain⟨q1,q2,q3,q4,q5⟩:=at_cells (HR.out.keep HW2.out) HPj.out
       obtain⟨r1,r2,r3,r4,r5⟩:=at_cells (HR.out.keep HW2.out) HPA.out
       simp only at q1 q2 q3 q4 q5
       go_wp2_with fail
       rw[<- HX.out]
       exact bodyPost_ret (v:=.tuple #[.int .i64 (-1),.int .i64 (-1)]) (by simp[results,Tryz.results80,go_sem]) rfl ⟨rfl,HW2.out⟩
    ·by_cases h110:x.op=11/\d=0
     ·obtain ⟨h11,rfl⟩:=h110
      rw[if_neg h50,if_pos ⟨h11,rfl⟩] at HE2
      have HX:=hid HE2
      clear HE2
      have t1:(x.op == 5)=false:=by simp;omega
      have t2:(x.op == 11)=true:=by simpa using h11
      try clear h4'
      try clear h4
      try clear h50
      try clear h110
      try clear h11
      try clear h5
      try clear h0
      go_wp2_with fail
      refine(HOP.out _).mono ?_
      rintro e w2 ⟨rfl,hb⟩
      have HW2:=hid (HWr.out.trans (hb.mono HWr.out.size))
      clear hb q1 q2 q3 q4 q5
      obtain⟨q1,q2,q3,q4,q5⟩:=at_cells (HR.out.keep HW2.out) HPj.out
      obtain⟨r1,r2,r3,r4,r5⟩:=at_cells (HR.out.keep HW2.out) HPA.out
      simp only at q1 q2 q3 q4 q5
      go_wp2_with fail
      rw[<- HX.out]
      exact bodyPost_ret (v:=.tuple #[.int .i64 ((j:Int)),.int .i64 (o)]) (by simp[results,Tryz.results80,go_sem]) rfl ⟨rfl,HW2.out⟩
     ·by_cases h11:x.op=11
      ·have hd0:d≠0:=fun e=>h110 ⟨h11,e⟩
       rw[if_neg h50,if_neg h110,if_pos h11] at HE2
       have HX:=hid HE2
       clear HE2
       have t1:(x.op == 5)=false:=by simp;omega
       have t2:(x.op == 11)=true:=by simpa using h11
       have t5:((d:Int) == 0)=false:=by simp;omega
       have hw2:IntKind.i64.wrap ((d:Int) - 1)=((d - 1:Nat):Int):=by rw[IntKind.wrap_i64];omega
       try clear h4'
       try clear h4
       try clear h50
       try clear h110
       try clear h11
       try clear h5
       try clear h0
       go_wp2_with fail
       refine(HOP.out _).mono ?_
       rintro e w2 ⟨rfl,hb⟩
       have HW2:=hid (HWr.out.trans (hb.mono HWr.out.size))
       clear hb q1 q2 q3 q4 q5
       obtain⟨q1,q2,q3,q4,q5⟩:=at_cells (HR.out.keep HW2.out) HPj.out
       obtain⟨r1,r2,r3,r4,r5⟩:=at_cells (HR.out.keep HW2.out) HPA.out
       simp only at q1 q2 q3 q4 q5
       go_wp2_with fail
       go_roundw
       case rel=>exact ⟨j+1,d - 1,o,by go_num,by go_num,by first | rfl | go_num,hlt,by omega,by omega,by omega,by omega,HX.out,HW2.out⟩
       case measure=>simp[intOf];omega
      ·by_cases h5:x.op=5
       ·have hd0:d≠0:=fun e=>h50 ⟨h5,e⟩
        rw[if_neg h50,if_neg h110,if_neg h11] at HE2
        have HX:=hid HE2
        clear HE2
        have t1:(x.op == 5)=true:=by simpa using h5
        have t2:(x.op == 11)=false:=by simp;omega
        have t5:((d:Int) == 0)=false:=by simp;omega
        try clear h4'
        try clear h4
        try clear h50
        try clear h110
        try clear h11
        try clear h5
        try clear h0
        go_wp2_with fail
        refine(HOP.out _).mono ?_
        rintro e w2 ⟨rfl,hb⟩
        have HW2:=hid (HWr.out.trans (hb.mono HWr.out.size))
        clear hb q1 q2 q3 q4 q5
        obtain⟨q1,q2,q3,q4,q5⟩:=at_cells (HR.out.keep HW2.out) HPj.out
        obtain⟨r1,r2,r3,r4,r5⟩:=at_cells (HR.out.keep HW2.out) HPA.out
        simp only at q1 q2 q3 q4 q5
        go_wp2_with fail
        go_roundw
        case rel=>exact ⟨j+1,d,o,by go_num,by go_num,by first | rfl | go_num,hlt,by omega,by omega,by omega,by omega,HX.out,HW2.out⟩
        case measure=>simp[intOf];omega
       ·rw[if_neg h50,if_neg h110,if_neg h11] at HE2
        have HX:=hid HE2
        clear HE2
        have t1:(x.op == 5)=false:=by simpa using h5
        have t2:(x.op == 11)=false:=by simpa using h11
        try clear h4'
        try clear h4
        try clear h50
        try clear h110
        try clear h11
        try clear h5
        try clear h0
        go_wp2_with fail
        refine(HOP.out _).mono ?_
        rintro e w2 ⟨rfl,hb⟩
        have HW2:=hid (HWr.out.trans (hb.mono HWr.out.size))
        clear hb q1 q2 q3 q4 q5
        obtain⟨q1,q2,q3,q4,q5⟩:=at_cells (HR.out.keep HW2.out) HPj.out
        obtain⟨r1,r2,r3,r4,r5⟩:=at_cells (HR.out.keep HW2.out) HPA.out
        simp only at q1 q2 q3 q4 q5
        go_wp2_with fail
        go_roundw
        case rel=>exact ⟨j+1,d,o,by go_num,by go_num,by first | rfl | go_num,hlt,by omega,by omega,by omega,by omega,HX.out,HW2.out⟩
        case measure=>simp[intOf];omega
  ·obtain rfl:j=n:=by omega
   have HE3:=HEL.out
   rw[List.drop_eq_nil_of_le (by rw[opsL_len,HN.out];exact Nat.le_refl _),el] at HE3
   go_wp2_with fail
   rw[<- HE3]
   exact bodyPost_ret (v:=.tuple #[.int .i64 (-1),.int .i64 (-1)]) (by simp[results,Tryz.results80,go_sem]) rfl ⟨rfl,HWr.out⟩
end Go.Proofs.YtlappkflnlbfcaaGreatDoor.Bod
end
section
namespace Go.Proofs.YtlappkflnlbfcaaGreatDoor.Bod
open Lib (hid)
set_option maxRecDepth 100000
set_option maxHeartbeats 1000000
set_option linter.unusedVariables false
def mst (ops:List Int)(k:Nat)(s:List (Int×Int)×List Bool):Option (List (Int×Int)×List Bool):=
 if opn (ops.getD k 0) then
  if (dEnd ops k).1<0 then none
  else if 0<=(dEnd ops k).2 then some ((s.1.set k ((dEnd ops k).2,(dEnd ops k).1)).set (dEnd ops k).2.toNat (-1,(dEnd ops k).1),(s.2.set (dEnd ops k).1.toNat true).set (dEnd ops k).2.toNat true)
  else some (s.1.set k ((dEnd ops k).2,(dEnd ops k).1),s.2.set (dEnd ops k).1.toNat true)
 else some s
def m2 (ops:List Int):Nat->Option (List (Int×Int)×List Bool)
 | 0=>some (List.replicate ops.length (-1,-1),List.replicate ops.length false)
 | k+1=>(m2 ops k).bind (mst ops k)
def usedOk (ops:List Int)(used:List Bool):Bool:=(List.range ops.length).all fun k=>!(ops.getD k 0 == 5 || ops.getD k 0 == 11) || used.getD k false
def dM (ops:List Int):Option (List (Int×Int)):=(m2 ops ops.length).bind fun s=>if usedOk ops s.2 then some s.1 else none
theorem getD_setI {α:Type}(l:List α)(i j:Nat)(a d:α):(l.set i a).getD j d=if i=j/\j<l.length then a else l.getD j d:=by
 rw[List.getD_eq_getElem?_getD,List.getD_eq_getElem?_getD,List.getElem?_set]
 by_cases e:i=j
 ·subst e
  by_cases h:i<l.length
  ·simp[h]
  ·simp[h]
 ·simp[e]
def IsPart (ops:List Int)(k p:Nat):Prop:=∃j,j<k/\opn (ops.getD j 0)=true/\((dEnd ops j).1=(p:Int)\/(dEnd ops j).2=(p:Int))
def IsElse (ops:List Int)(k p j:Nat):Prop:=j<k/\opn (ops.getD j 0)=true/\(dEnd ops j).2=(p:Int)
structure M2 (ops:List Int) (k:Nat) (s:List (Int×Int)×List Bool):Prop where
 len1:s.1.length=ops.length
 len2:s.2.length=ops.length
 pos:∀j,j<k->opn (ops.getD j 0)=true->0<=(dEnd ops j).1
 used:∀p,p<ops.length->(s.2.getD p false=true↔IsPart ops k p)
 o1:∀p,p<ops.length->p<k->opn (ops.getD p 0)=true->s.1.getD p (-1,-1)=((dEnd ops p).2,(dEnd ops p).1)
 o2:∀p,p<ops.length->(∃j,IsElse ops k p j)->∃j,IsElse ops k p j/\s.1.getD p (-1,-1)=(-1,(dEnd ops j).1)
 o3:∀p,p<ops.length->(opn (ops.getD p 0)=true->k<=p)->(¬ ∃j,IsElse ops k p j)->s.1.getD p (-1,-1)=(-1,-1)
theorem part_skip {ops:List Int}{k p:Nat}(h:¬ opn (ops.getD k 0)=true):IsPart ops (k+1) p↔IsPart ops k p:=by
 constructor
 ·rintro ⟨j,h1,h2,h3⟩
  refine⟨j,?_,h2,h3⟩
  by_cases e:j=k
  ·subst e;exact absurd h2 h
  ·omega
 ·rintro ⟨j,h1,h2,h3⟩
  exact⟨j,by omega,h2,h3⟩
theorem else_skip {ops:List Int}{k p j:Nat}(h:¬ opn (ops.getD k 0)=true):IsElse ops (k+1) p j↔IsElse ops k p j:=by
 constructor
 ·rintro ⟨h1,h2,h3⟩
  refine⟨?_,h2,h3⟩
  by_cases e:j=k
  ·subst e;exact absurd h2 h
  ·omega
 ·rintro ⟨h1,h2,h3⟩
  exact⟨by omega,h2,h3⟩
theorem else_op {ops:List Int}{k p j:Nat}(hk:k<=ops.length)(h:IsElse ops k p j):ops.getD p 0=5/\j<p:=by
 obtain⟨h1,h2,h3⟩:=h
 rcases dEnd_facts (ops:=ops) (k:=j) (by omega) with e | ⟨e,o,e1,e2,e3,e4,e5,e6⟩
 ·rw[e] at h3;simp at h3
 ·rw[e1] at h3
  simp only at h3
  subst h3
  rcases e6 with e6 | ⟨_,g2,g3⟩
  ·omega
  ·rw[Int.toNat_natCast] at g3
   exact⟨g3,by omega⟩
theorem m2_inv (ops:List Int):∀ (k:Nat) (s:List (Int×Int)×List Bool),k<=ops.length->m2 ops k=some s->M2 ops k s
 | 0,s,_,h=>by
  obtain rfl:=Option.some.inj h
  refine⟨by simp,by simp,fun j hj=>by omega,fun p hp=>?_,fun p _ hp=>by omega,fun p _ ⟨j,hj⟩=>absurd hj.1 (by omega),fun p hp _ _=>?_⟩
  ·constructor
   ·intro hh
    rw[List.getD_eq_getElem?_getD,List.getElem?_replicate] at hh
    simp[hp] at hh
   ·rintro ⟨j,hj,_⟩;omega
  ·rw[List.getD_eq_getElem?_getD,List.getElem?_replicate]
   simp[hp]
 | k+1,s',hk,h=>by
  have hb:(m2 ops k).bind (mst ops k)=some s':=h
  cases h0:m2 ops k with
  | none=>rw[h0] at hb;cases hb
  | some s=>
   rw[h0] at hb
   have hb:mst ops k s=some s':=hb
   have ih:=m2_inv ops k s (by omega) h0
   unfold mst at hb
   by_cases ho:opn (ops.getD k 0)=true
   ·rw[if_pos ho] at hb
    by_cases hneg:(dEnd ops k).1<0
    ·rw[if_pos hneg] at hb;cases hb
    ·rw[if_neg hneg] at hb
     rcases dEnd_facts (ops:=ops) (k:=k) (by omega) with e | ⟨e,o,e1,e2,e3,e4,e5,e6⟩
     ·rw[e] at hneg;simp at hneg
     ·rw[e1] at hb hneg
      simp only[Int.toNat_natCast] at hb
      have hkop:=opn_not ho
      have hpart:∀p,IsPart ops (k+1) p↔(IsPart ops k p\/(e:Int)=(p:Int)\/o=(p:Int)):=by
       intro p
       constructor
       ·rintro ⟨j,h1,h2,h3⟩
        by_cases ej:j=k
        ·subst ej;rw[e1] at h3;exact .inr h3
        ·exact .inl ⟨j,by omega,h2,h3⟩
       ·rintro (⟨j,h1,h2,h3⟩ | h3)
        ·exact ⟨j,by omega,h2,h3⟩
        ·exact ⟨k,by omega,ho,by rw[e1];exact h3⟩
      have helse:∀p j,IsElse ops (k+1) p j↔(IsElse ops k p j\/(j=k/\o=(p:Int))):=by
       intro p j
       constructor
       ·rintro ⟨h1,h2,h3⟩
        by_cases ej:j=k
        ·subst ej;rw[e1] at h3;exact .inr ⟨rfl,h3⟩
        ·exact .inl ⟨by omega,h2,h3⟩
       ·rintro (⟨h1,h2,h3⟩ | ⟨rfl,h3⟩)
        ·exact ⟨by omega,h2,h3⟩
        ·exact ⟨by omega,ho,by rw[e1];exact h3⟩
      have hpos:∀j,j<k+1->opn (ops.getD j 0)=true->0<=(dEnd ops j).1:=fun j hj hoj=>by
       by_cases ej:j=k
       ·subst ej;rw[e1];simp only;omega
       ·exact ih.pos j (by omega) hoj
      by_cases hoo:0<=o
      ·rw[if_pos hoo] at hb
       obtain rfl:=Option.some.inj hb
       obtain⟨on,rfl⟩:=Int.eq_ofNat_of_zero_le hoo
       rcases e6 with e6 | ⟨_,g2,g3⟩
       ·omega
       ·rw[Int.toNat_natCast] at g3 ⊢
        refine⟨by simp[ih.len1],by simp[ih.len2],hpos,fun p hp=>?_,fun p hp hpk hop=>?_,fun p hp hex=>?_,fun p hp hpk hne=>?_⟩
        ·simp only[getD_setI,List.length_set,ih.len2]
         rw[hpart]
         by_cases c1:on=p
         ·simp[c1,hp]
         ·by_cases c2:e=p
          ·simp[c1,c2,hp]
          ·rw[if_neg (fun q=>c1 q.1),if_neg (fun q=>c2 q.1),ih.used p hp]
           constructor
           ·exact .inl
           ·rintro (q | q | q)
            ·exact q
            ·omega
            ·omega
        ·simp only[getD_setI,List.length_set,ih.len1]
         have c1:on≠p:=fun c=>by subst c;rw[g3] at hop;exact absurd hop (by decide)
         rw[if_neg (fun q=>c1 q.1)]
         by_cases c2:k=p
         ·subst c2;rw[if_pos ⟨rfl,hp⟩,e1]
         ·rw[if_neg (fun q=>c2 q.1)]
          exact ih.o1 p hp (by omega) hop
        ·simp only[getD_setI,List.length_set,ih.len1]
         by_cases c1:on=p
         ·subst c1
          exact⟨k,(helse _ _).2 (.inr ⟨rfl,rfl⟩),by rw[if_pos ⟨rfl,hp⟩,e1]⟩
         ·rw[if_neg (fun q=>c1 q.1)]
          obtain⟨j,hj⟩:=hex
          have hop:=(else_op (by omega) hj).1
          have c2:k≠p:=fun c=>by subst c;exact hkop.1 hop
          rw[if_neg (fun q=>c2 q.1)]
          rcases (helse _ _).1 hj with hj | ⟨_,hj⟩
          ·obtain ⟨j',hj',hv⟩:=ih.o2 p hp ⟨j,hj⟩
           exact⟨j',(helse _ _).2 (.inl hj'),hv⟩
          ·omega
        ·simp only[getD_setI,List.length_set,ih.len1]
         have c1:on≠p:=fun c=>by subst c;exact hne ⟨k,(helse _ _).2 (.inr ⟨rfl,rfl⟩)⟩
         have c2:k≠p:=fun c=>by subst c;have:=hpk ho;omega
         rw[if_neg (fun q=>c1 q.1),if_neg (fun q=>c2 q.1)]
         exact ih.o3 p hp (fun q=>by have:=hpk q;omega) (fun ⟨j,hj⟩=>hne ⟨j,(helse _ _).2 (.inl hj)⟩)
      ·rw[if_neg hoo] at hb
       obtain rfl:=Option.some.inj hb
       refine⟨by simp[ih.len1],by simp[ih.len2],hpos,fun p hp=>?_,fun p hp hpk hop=>?_,fun p hp hex=>?_,fun p hp hpk hne=>?_⟩
       ·simp only[getD_setI,ih.len2]
        rw[hpart]
        by_cases c2:e=p
        ·simp[c2,hp]
        ·rw[if_neg (fun q=>c2 q.1),ih.used p hp]
         constructor
         ·exact .inl
         ·rintro (q | q | q)
          ·exact q
          ·omega
          ·omega
       ·simp only[getD_setI,ih.len1]
        by_cases c2:k=p
        ·subst c2;rw[if_pos ⟨rfl,hp⟩,e1]
        ·rw[if_neg (fun q=>c2 q.1)]
         exact ih.o1 p hp (by omega) hop
       ·simp only[getD_setI,ih.len1]
        obtain⟨j,hj⟩:=hex
        have hop:=(else_op (by omega) hj).1
        have c2:k≠p:=fun c=>by subst c;exact hkop.1 hop
        rw[if_neg (fun q=>c2 q.1)]
        rcases (helse _ _).1 hj with hj | ⟨_,hj⟩
        ·obtain ⟨j',hj',hv⟩:=ih.o2 p hp ⟨j,hj⟩
         exact⟨j',(helse _ _).2 (.inl hj'),hv⟩
        ·omega
       ·simp only[getD_setI,ih.len1]
        have c2:k≠p:=fun c=>by subst c;have:=hpk ho;omega
        rw[if_neg (fun q=>c2 q.1)]
        exact ih.o3 p hp (fun q=>by have:=hpk q;omega) (fun ⟨j,hj⟩=>hne ⟨j,(helse _ _).2 (.inl hj)⟩)
   ·rw[if_neg ho] at hb
    obtain rfl:=Option.some.inj hb
    refine⟨ih.len1,ih.len2,fun j hj hoj=>?_,fun p hp=>by rw[part_skip ho];exact ih.used p hp,fun p hp hpk hop=>?_,fun p hp hex=>?_,fun p hp hpk hne=>?_⟩
    ·by_cases ej:j=k
     ·subst ej;exact absurd hoj ho
     ·exact ih.pos j (by omega) hoj
    ·by_cases ej:p=k
     ·subst ej;exact absurd hop ho
     ·exact ih.o1 p hp (by omega) hop
    ·obtain ⟨j,hj⟩:=hex
     obtain⟨j',hj',hv⟩:=ih.o2 p hp ⟨j,(else_skip ho).1 hj⟩
     exact⟨j',(else_skip ho).2 hj',hv⟩
    ·refine ih.o3 p hp (fun q=>by have:=hpk q;omega) (fun ⟨j,hj⟩=>hne ⟨j,(else_skip ho).2 hj⟩)
theorem m2_some {ops:List Int}(h:Nested ops):∀k,k<=ops.length->∃s,m2 ops k=some s
 | 0,_=>⟨_,rfl⟩
 | k+1,hk=>by
  obtain⟨s,hs⟩:=m2_some h k (by omega)
  have e:m2 ops (k+1)=(m2 ops k).bind (mst ops k):=rfl
  rw[e,hs]
  show ∃s',mst ops k s=some s'
  unfold mst
  by_cases ho:opn (ops.getD k 0)=true
  ·obtain ⟨e,o,h1,_⟩:=nested_closed h (by omega) ho
   rw[if_pos ho,h1,if_neg (by simp only;omega)]
   split
   ·exact ⟨_,rfl⟩
   ·exact ⟨_,rfl⟩
  ·rw[if_neg ho]
   exact⟨_,rfl⟩
theorem top_end {ops:List Int}(h:Nested ops){p:Nat}(hp:p<ops.length)(h11:ops.getD p 0=11):∃k f o S,st ops p=some ((k,f,o) :: S)/\k<p/\opn (ops.getD k 0)=true/\dEnd ops k=((p:Int),o):=by
 obtain⟨S1,h1⟩:=st_le h (q:=p+1) (by omega)
 obtain⟨S,h0⟩:=st_before h1
 have hs:=st_succ h0 h1
 have hno:¬ opn (ops.getD p 0)=true:=by rw[h11];decide
 unfold stepS at hs
 rw[if_neg hno,if_neg (by rw[h11];decide),if_pos h11] at hs
 cases S with
 | nil=>cases hs
 | cons a S=>
  obtain⟨k,f,o⟩:=a
  obtain⟨g1,g2,g3,g4,g5,g7,g6⟩:=held ops (by omega) h0 [] S k f o rfl
  refine⟨k,f,o,S,h0,g1,g2,?_⟩
  rw[g6,drop_cons hp,el,if_neg hno,if_neg (fun q=>by rw[h11] at q;exact absurd q.1 (by decide)),if_pos ⟨h11,rfl⟩]
theorem top_else {ops:List Int}(h:Nested ops){p:Nat}(hp:p<ops.length)(h5:ops.getD p 0=5):∃k o S,st ops p=some ((k,true,o) :: S)/\k<p/\o<0/\opn (ops.getD k 0)=true/\(dEnd ops k).2=(p:Int):=by
 obtain⟨S1,h1⟩:=st_le h (q:=p+1) (by omega)
 obtain⟨S,h0⟩:=st_before h1
 have hs:=st_succ h0 h1
 have hno:¬ opn (ops.getD p 0)=true:=by rw[h5];decide
 unfold stepS at hs
 rw[if_neg hno,if_pos h5] at hs
 cases S with
 | nil=>cases hs
 | cons a S=>
  obtain⟨k,f,o⟩:=a
  cases f with
  | false=>cases hs
  | true=>
   simp only at hs
   by_cases ho:o<0
   ·rw[if_pos ho] at hs
    obtain rfl:=Option.some.inj hs
    obtain⟨g1,g2,g3,g4,g5,g7,g6⟩:=held ops (by omega) h1 [] S k true (p:Int) rfl
    obtain⟨f1,f2,_⟩:=held ops (by omega) h0 [] S k true o rfl
    refine⟨k,o,S,h0,f1,ho,g2,?_⟩
    obtain⟨e,o',h2,_⟩:=nested_closed h (show k<ops.length by omega) g2
    rcases el_facts true (ops.drop (p+1)) (p+1) 0 (p:Int) (by omega) with q | ⟨e',o'',q1,_,_,_,_,_,q7⟩
    ·rw[show el true (ops.drop (p+1)) (p+1) ([]:Stk).length (p:Int)=_ from q] at g6
     rw[g6] at h2
     simp at h2
    ·rw[g6,show el true (ops.drop (p+1)) (p+1) ([]:Stk).length (p:Int)=_ from q1]
     exact q7 (by omega)
   ·rw[if_neg ho] at hs;cases hs
theorem dM_some {ops:List Int}(h:Nested ops):∃out,dM ops=some out:=by
 obtain⟨s,hs⟩:=m2_some h ops.length (Nat.le_refl _)
 have hi:=m2_inv ops _ s (Nat.le_refl _) hs
 refine⟨s.1,?_⟩
 unfold dM
 rw[hs]
 show (if usedOk ops s.2 then some s.1 else none)=some s.1
 rw[if_pos]
 unfold usedOk
 rw[List.all_eq_true]
 intro p hp
 rw[List.mem_range] at hp
 by_cases h5:ops.getD p 0=5
 ·obtain ⟨k,o,S,_,g1,_,g2,g3⟩:=top_else h hp h5
  rw[(hi.used p hp).2 ⟨k,by omega,g2,.inr g3⟩,Bool.or_true]
 ·by_cases h11:ops.getD p 0=11
  ·obtain ⟨k,f,o,S,_,g1,g2,g3⟩:=top_end h hp h11
   rw[(hi.used p hp).2 ⟨k,by omega,g2,.inl (by rw[g3])⟩,Bool.or_true]
  ·rw[show (ops.getD p 0 == 5)=false from by simpa using h5,show (ops.getD p 0 == 11)=false from by simpa using h11]
   rfl
theorem dM_nested {ops:List Int}{out:List (Int×Int)}(h:dM ops=some out):Nested ops:=by
 unfold dM at h
 cases hs:m2 ops ops.length with
 | none=>rw[hs] at h;cases h
 | some s=>
  rw[hs] at h
  have h:(if usedOk ops s.2 then some s.1 else none)=some out:=h
  by_cases hu:usedOk ops s.2=true
  ·have hi:=m2_inv ops _ s (Nat.le_refl _) hs
   have hpart:∀p,p<ops.length->(ops.getD p 0=5\/ops.getD p 0=11)->IsPart ops ops.length p:=fun p hp ho=>by
    have h1:=List.all_eq_true.1 hu p (List.mem_range.2 hp)
    have h2:(ops.getD p 0 == 5 || ops.getD p 0 == 11)=true:=by simpa using ho
    rw[h2] at h1
    exact(hi.used p hp).1 (by simpa using h1)
   have all:∀p,p<=ops.length->∃S,st ops p=some S:=by
    intro p
    induction p with
    | zero=>exact fun _=>⟨[],rfl⟩
    | succ p ih=>
     intro hp
     obtain⟨S,h0⟩:=ih (by omega)
     have e:st ops (p+1)=(st ops p).bind fun S=>stepS p (ops.getD p 0) S:=rfl
     rw[e,h0]
     show ∃S',stepS p (ops.getD p 0) S=some S'
     have hH:=held ops (by omega) h0
     unfold stepS
     by_cases h1:opn (ops.getD p 0)=true
     ·rw[if_pos h1];exact⟨_,rfl⟩
     ·rw[if_neg h1]
      by_cases h5:ops.getD p 0=5
      ·rw[if_pos h5]
       obtain⟨k,hk,hok,hkp⟩:=hpart p (by omega) (.inl h5)
       have hko:(dEnd ops k).2=(p:Int)/\k<p:=by
        rcases dEnd_facts hk with q | ⟨e,o,q1,q2,q3,q4,q5,q6⟩
        ·rw[q] at hkp;simp at hkp
        ·rw[q1] at hkp ⊢
         simp only at hkp ⊢
         rcases hkp with hkp | hkp
         ·have:e=p:=by omega
          subst this
          rw[h5] at q4
          exact absurd q4 (by decide)
         ·rcases q6 with q6 | ⟨_,g2,_⟩
          ·omega
          ·exact ⟨hkp,by omega⟩
       have hpos:=hi.pos k hk hok
       rcases open_or_closed ops (by omega) h0 k hko.2 hok with ⟨f,o,hm⟩ | ⟨e,o,c1,c2,c3,c4,c5,_⟩
       ·obtain ⟨S1,S2,rfl⟩:=List.append_of_mem hm
        obtain⟨g1,g2,g3,g4,g5,g7,g6⟩:=hH S1 S2 k f o rfl
        rw[drop_cons (by omega),el,if_neg h1] at g6
        by_cases hd:S1.length=0
        ·obtain rfl:=List.length_eq_zero_iff.1 hd
         rw[if_pos ⟨h5,rfl⟩] at g6
         by_cases hbad:0<=o\/f=false
         ·rw[if_pos hbad] at g6
          rw[g6] at hpos
          simp at hpos
         ·have ho:o<0:=by omega
          have hf:f=true:=by
           cases f with
           | true=>rfl
           | false=>exact absurd (.inr rfl) hbad
          subst hf
          simp only[List.nil_append]
          rw[if_pos ho]
          exact⟨_,rfl⟩
        ·rw[if_neg (fun q=>hd q.2),if_neg (fun q=>hd q.2),if_neg (by rw[h5];decide)] at g6
         exfalso
         rcases el_facts f (ops.drop (p+1)) (p+1) S1.length o (by omega) with q | ⟨e,o',q1,_,_,_,_,q6,_⟩
         ·rw[g6,q] at hpos;simp at hpos
         ·rw[g6,q1] at hko
          simp only at hko
          rcases q6 with q6 | ⟨_,_,q8,_⟩
          ·omega
          ·omega
       ·rw[c1] at hko
        simp only at hko
        omega
      ·rw[if_neg h5]
       by_cases h11:ops.getD p 0=11
       ·rw[if_pos h11]
        cases S with
        | cons a S=>exact ⟨_,rfl⟩
        | nil=>
         exfalso
         obtain⟨k,hk,hok,hkp⟩:=hpart p (by omega) (.inr h11)
         have hko:(dEnd ops k).1=(p:Int)/\k<p:=by
          rcases dEnd_facts hk with q | ⟨e,o,q1,q2,q3,q4,q5,q6⟩
          ·rw[q] at hkp;simp at hkp
          ·rw[q1] at hkp ⊢
           simp only at hkp ⊢
           rcases hkp with hkp | hkp
           ·exact ⟨hkp,by omega⟩
           ·rcases q6 with q6 | ⟨_,g2,g3⟩
            ·omega
            ·rw[hkp,Int.toNat_natCast,h11] at g3
             exact absurd g3 (by decide)
         rcases open_or_closed ops (by omega) h0 k hko.2 hok with ⟨f,o,hm⟩ | ⟨e,o,c1,c2,c3,_⟩
         ·simp at hm
         ·rw[c1] at hko
          simp only at hko
          omega
       ·rw[if_neg h11];exact⟨_,rfl⟩
   obtain⟨S,hS⟩:=all ops.length (Nat.le_refl _)
   cases S with
   | nil=>exact hS
   | cons a S=>
    exfalso
    obtain⟨k,f,o⟩:=a
    obtain⟨g1,g2,g3,g4,g5,g7,g6⟩:=held ops (Nat.le_refl _) hS [] S k f o rfl
    have hpos:=hi.pos k g1 g2
    rw[g6,List.drop_eq_nil_of_le (Nat.le_refl _)] at hpos
    simp[el] at hpos
  ·rw[if_neg hu] at h;cases h
end Go.Proofs.YtlappkflnlbfcaaGreatDoor.Bod
end
