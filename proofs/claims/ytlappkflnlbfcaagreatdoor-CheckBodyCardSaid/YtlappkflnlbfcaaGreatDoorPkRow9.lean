/- Row9. -/
import Derived.Test.YtlappkflnlbfcaaGreatDoorChecked
import Derived.Test.YtlappkflnlbfcaaGreatDoorPkStabAll
import Derived.Laws.AppendOwn
import Derived.Laws.BytesArg
import Derived.Laws.Bits128
import Derived.Deep.AppendLies
import Derived.OwnWalk
import Derived.WalkSpells
import Derived.WalkKit
import Derived.WalkMore
import Derived.WalkSmall
import Derived.LoopN
import Derived.Lib.Hide
import Derived.Lib.Bytes
import Derived.Lib.LazyBuf
import Derived.Deep.QuietTactic
import Derived.StillTailTactics
import Derived.BigQuiet
import Derived.Lib.SmallJoins
import Derived.ProofKit
import Derived.OpenShut
import Derived.Deep.Slices
import Derived.ArgAppend
section
namespace Go.Proofs.YtlappkflnlbfcaaGreatDoor.Row9
open Go.ChangeShapes Go.WideShapes Go.ChangeAt Go.RowKit Go.Joins
set_option maxRecDepth 100000
set_option maxHeartbeats 1000000
set_option linter.unusedVariables false
theorem cell_spot {w:World}{x:Addr}{v:Value}(h:w.cell? x=some v):x.spot=none:=by
 unfold World.cell? at h
 split at h
 ·split at h
  ·cases h
  ·rename_i hs
   cases hx:x.spot with
   | none=>rfl
   | some _=>rw[hx] at hs;simp at hs
 ·cases h
theorem add_plain (b o j:Nat):(⟨b,o,none⟩:Addr).add j=⟨b,o+j,none⟩:=by
 unfold Addr.add
 split
 ·rename_i h;subst h;rfl
 ·rfl
structure El (α:Type) where
 e:TypeId
 s:Nat
 z:Value
 bytes:Nat
 enc:α->List Value
 ok:World->α->Prop
 pos:0<s
 len:∀a,(enc a).length=s
 info:(Tryz.prog.info? e).map (fun i=>(i.zero,i.size,i.bytes))=some (some z,s,bytes)
 zs:z.cells.size=s
 stay:∀ {w w':World} {a:α},ok w a->Below w.heap.size w w'->ok w' a
 one:∀ {w:World} {a:α},ok w a->∀u∈enc a,u.oneCell'=true
variable {α:Type}
def At (T:El α)(w:World)(g o:Nat)(a:α):Prop:=∀i u,(T.enc a)[i]? = some u->w.cell? ⟨g,o+i,none⟩=some u
theorem At.keep {T:El α}{w w':World}{g o:Nat}{a:α}(h:At T w g o a)(hg:g<w.heap.size)(hb:Below w.heap.size w w'):At T w' g o a:=fun i u hu=>by
 rw[hb.cell (p:=⟨g,o+i,none⟩) hg]
 exact h i u hu
def Row (T:El α)(w:World)(v:Value)(l:List α):Prop:=
 (∃A c,v= .slice A l.length c/\l.length<=c/\c<=9223372036854775807/\(l≠[]->∃g off,A=some ⟨g,off,none⟩/\g<w.heap.size/\∀j p,l[j]? = some p->At T w g (off+j*T.s) p))/\∀p∈l,T.ok w p
theorem Row.keep {T:El α}{w w':World}{v:Value}{l:List α}(h:Row T w v l)(hb:Below w.heap.size w w'):Row T w' v l:=by
 obtain⟨⟨A,c,h1,h2,h3,h4⟩,h5⟩:=h
 refine⟨⟨A,c,h1,h2,h3,fun h0=>?_⟩,fun p hp=>T.stay (h5 p hp) hb⟩
 obtain⟨g,off,e,hg,hB⟩:=h4 h0
 exact⟨g,off,e,Nat.lt_of_lt_of_le hg hb.size,fun j p hp=>(hB j p hp).keep hg hb⟩
theorem Row.nil (T:El α)(w:World):Row T w (.slice none 0 0) []:=⟨⟨none,0,rfl,Nat.le_refl _,by omega,fun h=>absurd rfl h⟩,by simp⟩
theorem Row.form {T:El α}{w:World}{v:Value}{l:List α}(h:Row T w v l):∃A c,v= .slice A l.length c/\l.length<=c/\c<=9223372036854775807:=by
 obtain⟨⟨A,c,h1,h2,h3,_⟩,_⟩:=h
 exact⟨A,c,h1,h2,h3⟩
theorem Row.at_ {T:El α}{w:World}{A:Option Addr}{n c:Nat}{l:List α}(h:Row T w (.slice A n c) l){j:Nat}{p:α}(hj:l[j]? = some p):∃g off,A=some ⟨g,off,none⟩/\g<w.heap.size/\At T w g (off+j*T.s) p/\T.ok w p:=by
 obtain⟨⟨A',c',h1,h2,h3,h4⟩,h5⟩:=h
 obtain⟨g,off,e,hg,hB⟩:=h4 (fun e=>by rw[e] at hj;simp at hj)
 injection h1 with e1 e2 e3
 subst e1
 exact⟨g,off,e,hg,hB j p hj,h5 p (List.mem_of_getElem? hj)⟩
theorem g_plain (g off k:Nat):(⟨g,off,none⟩:Addr).add k=⟨g,off+k,none⟩:=add_plain g off k
section
variable {H:Type} {enc:TypeId×Value->H} {w:World} {base:Nat}
theorem row_of (T:El α){t:TypeId}(ht:Tryz.prog.underlying t=some (.slice T.e))(hc:Tryz.prog.cellsOf T.e=T.s)
  (each:∀ {n:Nat} {cs:List Value} {y:DataW H×List MemPlace},cs.length=T.s->DataW.trod enc Tryz.prog w base (fun _=>true) true n T.e cs=some y->∃q:α,T.ok w q/\T.enc q=cs)
  {n:Nat} {v:Value} {y:DataW H×List MemPlace} (h:DataW.trod enc Tryz.prog w base (fun _=>true) true n t [v]=some y):∃l,Row T w v l:=by
 rcases Go.Deep.open_slice ht h with ⟨hcs,_⟩ | ⟨a,len,cap,m,k,D,Pl,hcs,hb,hl,hm,hmm,_,hx⟩
 ·simp at hcs
  subst hcs
  exact⟨[],Row.nil T w⟩
 ·simp at hcs hmm
  subst hcs hmm
  have hsp:0<len->a.spot=none:=fun h0=>by
   obtain⟨cs',h1,h2⟩:=hx 0 (by omega)
   rw[hc] at h1
   obtain⟨_,hlen,hcell⟩:=World.cells?_some h1
   have f0:=hcell 0 T.pos
   rw[Nat.zero_mul,show (a.add 0).add 0=a from by unfold Addr.add;simp] at f0
   cases hq:cs'[0]? with
   | none=>
    have:=List.getElem?_eq_none_iff.1 hq
    have:=T.pos
    omega
   | some u=>
    rw[hq] at f0
    exact cell_spot (v:=u) f0
  have each2:∀i,i<len->∃q:α,T.ok w q/\At T w a.block (a.off+i*T.s) q:=by
   intro i hi
   have hsp:=hsp (by omega)
   obtain⟨cs',h1,h2⟩:=hx i (by omega)
   rw[hc] at h1
   obtain⟨_,hlen,hcell⟩:=World.cells?_some h1
   obtain⟨q,hq,he⟩:=each hlen h2
   refine⟨q,hq,fun j u hu=>?_⟩
   rw[he] at hu
   obtain⟨hj,_⟩:=List.getElem?_eq_some_iff.1 hu
   have f:=hcell j (by omega)
   rw[hu] at f
   obtain⟨g,off,sp⟩:=a
   simp only at hsp
   subst hsp
   simp only[g_plain] at f
   exact f
  let l:List α:=(List.range len).attach.map fun i=>(each2 i.1 (List.mem_range.1 i.2)).choose
  have hlen:l.length=len:=by simp[l]
  have hget:∀j p,l[j]? = some p->∃hj:j<len,p=(each2 j hj).choose:=by
   intro j p hp
   obtain⟨hj,e⟩:=List.getElem?_eq_some_iff.1 hp
   refine⟨by rw[hlen] at hj;exact hj,?_⟩
   rw[<- e]
   simp[l]
  refine⟨l,⟨some a,m,by rw[hlen],by omega,by unfold maxLen at hm;omega,fun h0=>?_⟩,fun p hp=>?_⟩
  ·have hpos:0<len:=by
    rcases Nat.eq_zero_or_pos len with e | e
    ·exact absurd (List.length_eq_zero_iff.1 (hlen.trans e)) h0
    ·exact e
   have hs0:=hsp hpos
   have hc0:=(each2 0 hpos).choose_spec.2
   have hlt:a.block<w.heap.size:=by
    have h1:=T.len (each2 0 hpos).choose
    have h2:=T.pos
    exact World.block_lt_of_cell? w ⟨a.block,a.off+0*T.s+0,none⟩ (hc0 0 _ (List.getElem?_eq_getElem (by omega)))
   refine⟨a.block,a.off,by rw[<- hs0],hlt,fun j p hp=>?_⟩
   obtain⟨hj,rfl⟩:=hget j p hp
   exact(each2 j hj).choose_spec.2
  ·obtain ⟨j,hj⟩:=List.getElem?_of_mem hp
   obtain⟨hj',rfl⟩:=hget j p hj
   exact(each2 j hj').choose_spec.1
end
def Own (T:El α)(w:World)(B:Nat)(v:Value)(l:List α):Prop:=w.ownsRow B T.e T.s v l.length (l.flatMap T.enc)
theorem own_nil (T:El α)(w:World)(B:Nat):Own T w B (.slice none 0 0) []:=⟨by simp,.inl ⟨rfl,rfl⟩⟩
theorem own_keep {w w':World}{B e s n:Nat}{v:Value}{xs:List Value}(h:w.ownsRow B e s v n xs)(hb:Below w.heap.size w w'):w'.ownsRow B e s v n xs:=by
 obtain⟨h1,h2⟩:=h
 refine⟨h1,?_⟩
 rcases h2 with h2 | ⟨g,cap,cur,hv,hB,hc,hr⟩
 ·exact .inl h2
 ·exact .inr ⟨g,cap,cur,hv,hB,by rw[hb.block g (Array.getElem?_eq_some_iff.1 hc).1];exact hc,hr⟩
theorem Own.form {T:El α}{w:World}{B:Nat}{v:Value}{l:List α}(h:Own T w B v l):∃P c,v= .slice P l.length c:=by
 obtain⟨_,⟨hv,hl⟩ | ⟨g,cap,cur,hv,_⟩⟩:=h
 ·exact ⟨none,0,by rw[hv,hl]⟩
 ·exact ⟨_,_,hv⟩
theorem flat_len (T:El α):∀l:List α,(l.flatMap T.enc).length=l.length*T.s
 | []=>by simp
 | a :: l=>by rw[List.flatMap_cons,List.length_append,flat_len T l,List.length_cons,T.len,Nat.add_mul,Nat.one_mul];omega
theorem flat_get (T:El α):∀ (l:List α) (j i:Nat) (p:α),l[j]? = some p->i<T.s->(l.flatMap T.enc)[j*T.s+i]? = (T.enc p)[i]?
 | [],j,i,p,h,_=>by simp at h
 | q :: l,0,i,p,h,hi=>by
  simp at h
  subst h
  rw[List.flatMap_cons,Nat.zero_mul,Nat.zero_add,List.getElem?_append_left (by rw[T.len];exact hi)]
 | q :: l,j+1,i,p,h,hi=>by
  rw[List.getElem?_cons_succ] at h
  rw[List.flatMap_cons,List.getElem?_append_right (by rw[T.len,Nat.add_mul,Nat.one_mul];omega),T.len,show (j+1)*T.s+i - T.s=j*T.s+i from by rw[Nat.add_mul,Nat.one_mul];omega]
  exact flat_get T l j i p h hi
theorem flat_inv (T:El α):∀ (l:List α) (j:Nat) (u:Value),(l.flatMap T.enc)[j]? = some u->∃k i p,j=k*T.s+i/\l[k]? = some p/\(T.enc p)[i]? = some u
 | [],j,u,h=>by simp at h
 | a :: l,j,u,h=>by
  rw[List.flatMap_cons] at h
  by_cases hj:j<T.s
  ·rw[List.getElem?_append_left (by rw[T.len];exact hj)] at h
   exact⟨0,j,a,by omega,rfl,h⟩
  ·rw[List.getElem?_append_right (by rw[T.len];omega),T.len] at h
   obtain⟨k,i,p,h1,h2,h3⟩:=flat_inv T l (j - T.s) u h
   exact⟨k+1,i,p,by rw[Nat.add_mul,Nat.one_mul];omega,by rw[List.getElem?_cons_succ];exact h2,h3⟩
theorem Own.row {T:El α}{w:World}{B:Nat}{v:Value}{l:List α}(h:Own T w B v l)(hok:∀p∈l,T.ok w p):Row T w v l:=by
 obtain⟨_,⟨hv,hl⟩ | ⟨g,cap,cur,hv,hB,hc,hle,hm,hsz,ht⟩⟩:=id h
 ·have:l = []:=List.length_eq_zero_iff.1 hl
  subst this
  subst hv
  exact Row.nil T w
 ·refine ⟨⟨_,cap,hv,hle,by unfold maxLen at hm;omega,fun h0=>⟨g,0,rfl,(Array.getElem?_eq_some_iff.1 hc).1,fun j p hp i u hu=>?_⟩⟩,hok⟩
  have hi:i<T.s:=by
   have:=(List.getElem?_eq_some_iff.1 hu).1
   rw[T.len] at this
   exact this
  have e:=World.ownsRow.cells h (g:=g) (by subst hv;rfl) (j*T.s+i) u (by rw[flat_get T l j i p hp hi];exact hu)
  rw[g_plain] at e
  rw[show 0+j*T.s+i=0+(j*T.s+i) from by omega]
  exact e
theorem row_cells {T:El α}{w:World}{g off n c:Nat}{l:List α}(h:Row T w (.slice (some ⟨g,off,none⟩) n c) l):∀j u,(l.flatMap T.enc)[j]? = some u->w.cell? ((⟨g,off,none⟩:Addr).add j)=some u:=by
 intro j u hu
 rw[g_plain]
 obtain⟨k,i,p,rfl,h2,h3⟩:=flat_inv T l j u hu
 obtain⟨g',off',e,_,hC,_⟩:=h.at_ h2
 simp only[Option.some.injEq,Addr.mk.injEq,and_true] at e
 obtain⟨rfl,rfl⟩:=e
 rw[show off+(k*T.s+i)=off+k*T.s+i from by omega]
 exact hC i u h3
theorem row_one {T:El α}{w:World}{l:List α}(h:∀p∈l,T.ok w p):∀u∈l.flatMap T.enc,u.oneCell'=true:=by
 intro u hu
 obtain⟨p,hp,hu⟩:=List.mem_flatMap.1 hu
 exact T.one (h p hp) u hu
theorem wp_oneG (T:El α){ops:Array Oper}{rest:List Oper}{o:Oper}{a:Act}{Q:Exit->Act->World->Prop}(t:TypeId)(ht:Tryz.prog.underlying t=some (.slice T.e))(w:World)(hgd:o.guard=none)(s x:Operand)
  (ho:o.op= .call { callee:=.builtin .append,args:=#[s,x],argTypes:=#[t,t] }) (B:Nat) (v:Value) (done:List α) (p:α) (hp:T.ok w p) (hs:a.eval s=v) (hown:Own T w B v done) (g1:Nat)
  (hx:a.eval x= .slice (some ⟨g1,0,none⟩) 1 1) (hat:At T w g1 0 p) (hlen:done.length<=1000000) (hby:T.bytes<=1000) (hB:B<=w.heap.size)
  (h:∀v' w',Own T w' B v' (done ++ [p])->Below B w w'->(∀k,k<w.heap.size->some k≠v.ownBlock->w'.heap[k]? = w.heap[k]?)->wpList Tryz.prog ops Q rest (a.put o.dst v') w'):wpList Tryz.prog ops Q (o :: rest) a w:=by
 obtain⟨i0,hi,hz0,hz1,hz2⟩:=info_parts T.info
 have hbig:(done.length+1)*T.bytes<=140737488355328:=by
  have h1:(done.length+1)*T.bytes<=1000001*1000:=Nat.mul_le_mul (by omega) hby
  omega
 refine wpList_append_own _ hgd s x t ho B T.e i0 T.z T.s T.bytes ht hi hz0 hz1 hz2 T.zs T.pos v _ _ hs hown ⟨g1,0,none⟩ 1 1 (T.enc p) hx (by rw[T.len,Nat.one_mul]) (fun j u hu=>by rw[g_plain];exact hat j u hu) (T.one hp) (by simp only[maxLen];omega) hbig hB ?_
 intro v' w' ho' hg hn
 refine h v' w' ?_ ((Below.refl _ _).grown hg hB (fun k hk=>(World.ownsRow.lt hown k hk).1)) (fun k hk hne=>hg.block k hk hne)
 have ho2:w'.ownsRow B T.e T.s v' (done ++ [p]).length ((done ++ [p]).flatMap T.enc):=by
  rw[List.flatMap_append,List.length_append]
  simpa using ho'
 exact ho2
def Chg (w w':World)(r:Option Nat):Prop:=∀k,k<w.heap.size->some k≠r->w'.heap[k]? = w.heap[k]?
theorem own_stay {w w':World}{B e s n:Nat}{v:Value}{xs:List Value}(h:w.ownsRow B e s v n xs)(hk:∀k,v.ownBlock=some k->w'.heap[k]? = w.heap[k]?):w'.ownsRow B e s v n xs:=by
 obtain⟨h1,h2⟩:=h
 refine⟨h1,?_⟩
 rcases h2 with h2 | ⟨g,cap,cur,hv,hB,hc,hr⟩
 ·exact .inl h2
 ·exact .inr ⟨g,cap,cur,hv,hB,by rw[hk g (by rw[hv];rfl)];exact hc,hr⟩
theorem own_type {w:World}{B e s n:Nat}{v:Value}{xs:List Value}(h:w.ownsRow B e s v n xs){k:Nat}(hk:v.ownBlock=some k):∃cur,w.heap[k]? = some (.cells cur e (0,0)):=by
 obtain⟨_,⟨h2,_⟩ | ⟨g,cap,cur,hv,hB,hc,_⟩⟩:=h
 ·rw[h2] at hk;cases hk
 ·rw[hv] at hk
  obtain rfl:g=k:=by simpa [Value.ownBlock] using hk
  exact⟨cur,hc⟩
theorem own_ne {w:World}{B e s n B' e' s' n':Nat}{v v':Value}{xs xs':List Value}(h:w.ownsRow B e s v n xs)(h':w.ownsRow B' e' s' v' n' xs')(hne:e≠e'){k:Nat}(hk:v.ownBlock=some k):some k≠v'.ownBlock:=by
 intro e1
 obtain⟨cur,h1⟩:=own_type h hk
 obtain⟨cur',h2⟩:=own_type h' e1.symm
 rw[h1] at h2
 simp only[Option.some.injEq,Obj.cells.injEq] at h2
 exact hne h2.2.1
theorem own_low {w:World}{B B' e s n:Nat}{v:Value}{xs:List Value}(h:w.ownsRow B e s v n xs)(hB:B'<=B):w.ownsRow B' e s v n xs:=by
 obtain⟨h1,h2⟩:=h
 refine⟨h1,?_⟩
 rcases h2 with h2 | ⟨g,cap,cur,hv,hB,hr⟩
 ·exact .inl h2
 ·exact .inr ⟨g,cap,cur,hv,by omega,hr⟩
theorem Own.take {T:El α}{w:World}{B:Nat}{A:Option Addr}{n c:Nat}{l:List α}(h:Own T w B (.slice A n c) l)(k:Nat)(hk:k<=l.length):Own T w B (.slice A k c) (l.take k):=by
 obtain⟨h1,h2⟩:=h
 have hl:(l.take k).length=k:=by rw[List.length_take];omega
 refine⟨by rw[flat_len],?_⟩
 rcases h2 with ⟨h2,h3⟩ | ⟨g,cap,cur,hv,hB,hc,hle,hm,hsz,ht⟩
 ·injection h2 with e1 e2 e3
  subst e1 e3
  rw[hl]
  exact .inl ⟨by rw[show k=0 from by omega],by omega⟩
 ·injection hv with e1 e2 e3
  subst e1 e3
  rw[hl]
  refine .inr ⟨g,c,cur,rfl,hB,hc,by omega,hm,hsz,?_⟩
  have e:l.flatMap T.enc=(l.take k).flatMap T.enc ++ (l.drop k).flatMap T.enc:=by rw[<- List.flatMap_append,List.take_append_drop]
  rw[e] at ht
  have hx:=congrArg (List.take (k*T.s)) ht
  rw[List.take_take,Nat.min_eq_left (Nat.mul_le_mul_right _ hk)] at hx
  rw[hx,List.take_left' (by rw[flat_len,hl])]
theorem own_new (T:El α)(w:World):Own T (w.alloc (.cells #[] T.e)) w.heap.size (.slice (some ⟨w.heap.size,0,none⟩) 0 0) []:=
 ⟨by simp,.inr ⟨_,_,_,rfl,Nat.le_refl _,heap_alloc_new w _,Nat.le_refl _,by simp[maxLen],by simp,by simp⟩⟩
theorem run_rowsG (T:El α)(t:TypeId)(ht:Tryz.prog.underlying t=some (.slice T.e))(w:World)(ty:TypeId)(B:Nat)(v x:Value)(done l:List α)(hown:Own T w B v done)(hl:Row T w x l)(hlen:done.length+l.length<=1000000)(hby:T.bytes<=100)(hB:B<=w.heap.size):
  ∃v' w',(Builtin.append_ #[t,t] ty #[v,x]).run Tryz.prog w= .ok v' w'/\Own T w' B v' (done ++ l)/\w.grownBy w' v.ownBlock:=by
 obtain⟨i0,hi,hz0,hz1,hz2⟩:=info_parts T.info
 have hbig:(done.length+l.length)*T.bytes<=140737488355328:=by
  have h1:(done.length+l.length)*T.bytes<=1000000*100:=Nat.mul_le_mul hlen hby
  omega
 obtain⟨A,c,rfl,h2,h3⟩:=hl.form
 rcases A with _ | ad
 ·have hl0:l = []:=by
   rcases l with _ | ⟨y,l⟩
   ·rfl
   ·obtain ⟨g,off,e,_⟩:=hl.at_ (j:=0) (p:=y) rfl
    cases e
  subst hl0
  refine⟨v,w,?_,by simpa using hown,⟨rfl,rfl,rfl,Nat.le_refl _,fun _ _ _=>rfl⟩⟩
  obtain⟨h1,h2⟩:=hown
  rcases h2 with ⟨e,hn⟩ | ⟨g',cp',cur,e,_,_,hn,_⟩
  ·subst e
   simp[Builtin.append_,run_underlying ht,sizeOf,typeInfo,hi,Builtin.lenOf,Builtin.firstCells]
  ·subst e
   simp[Builtin.append_,run_underlying ht,sizeOf,typeInfo,hi,Builtin.lenOf,Builtin.firstCells,hn,storeCells]
 ·have hcells:∀j u,(l.flatMap T.enc)[j]? = some u->w.cell? (ad.add j)=some u:=fun j u hu=>by
   obtain⟨y,hy⟩:∃y,l[0]? = some y:=by
    rcases l with _ | ⟨y,l⟩
    ·simp at hu
    ·exact ⟨y,rfl⟩
   obtain⟨g,off,e,_⟩:=hl.at_ hy
   obtain rfl:=Option.some.inj e
   exact row_cells hl j u hu
  obtain⟨v',w',hr,h1,h2,h3⟩:=run_append_own (P:=Tryz.prog) w B t ty T.e i0 T.z T.s T.bytes ht hi hz0 hz1 hz2 T.zs T.pos v _ _ hown ad l.length c (l.flatMap T.enc) (by rw[flat_len]) hcells (row_one hl.2) (by simp only[maxLen];omega) hbig hB
  refine⟨v',w',hr,?_,h2⟩
  have ho2:w'.ownsRow B T.e T.s v' (done ++ l).length ((done ++ l).flatMap T.enc):=by
   rw[List.flatMap_append,List.length_append]
   exact h1
  exact ho2
theorem wp_rowsG (T:El α){ops:Array Oper}{rest:List Oper}{o:Oper}{a:Act}{Q:Exit->Act->World->Prop}(t:TypeId)(ht:Tryz.prog.underlying t=some (.slice T.e))(w:World)(hgd:o.guard=none)(s x:Operand)
  (ho:o.op= .call { callee:=.builtin .append,args:=#[s,x],argTypes:=#[t,t] }) (B:Nat) (v x':Value) (done l:List α) (hs:a.eval s=v) (hown:Own T w B v done)
  (hx:a.eval x=x') (hl:Row T w x' l) (hlen:done.length+l.length<=1000000) (hby:T.bytes<=100) (hB:B<=w.heap.size)
  (h:∀v' w',Own T w' B v' (done ++ l)->Below B w w'->Chg w w' v.ownBlock->wpList Tryz.prog ops Q rest (a.put o.dst v') w'):wpList Tryz.prog ops Q (o :: rest) a w:=by
 refine wpList_plain hgd fun K hK=>?_
 obtain⟨v',w',hr,h1,h2⟩:=run_rowsG T t ht w o.type B v x' done l hown hl hlen hby hB
 unfold Oper.wp
 simp only[execOp,ho,resolve,invoke,builtin,Sem.run_bind,Sem.run_pure,Result.andThen_ok,List.map_toArray,List.map_cons,List.map_nil,hs,hx,hr]
 exact hK _ _ (h v' w' h1 ((Below.refl _ _).grown h2 hB (fun k hk=>(World.ownsRow.lt hown k hk).1)) (fun k hk hne=>h2.block k hk hne))
theorem zaC (w:World)(o:Obj):(w.alloc o).heap[w.heap.size]? = some o:=by
 show (w.heap.push o)[w.heap.size]? = some o
 simp
theorem zaD (w:World)(o:Obj):(w.alloc o).heap.size=w.heap.size+1:=by
 show (w.heap.push o).size=_
 simp
theorem zaA {w:World}{g:Nat}{cur:Array Value}{e:TypeId}(h:w.heap[g]? = some (.cells cur e (0,0)))(i:Nat):w.cell? ⟨g,i,none⟩=cur[i]?/\w.frozen? ⟨g,i,none⟩=false:=by
 refine⟨?_,?_⟩
 ·simp only[World.cell?,h];rfl
 ·simp only[World.frozen?,h];simp
theorem zaE {w:World}{g i:Nat}{cur:Array Value}{e:TypeId}(h:w.heap[g]? = some (.cells cur e (0,0)))(u:Value):(w.setCell ⟨g,i,none⟩ u).heap[g]? = some (.cells (cur.setIfInBounds i u) e (0,0)):=by
 simp[World.setCell,Array.getElem?_modify,h]
theorem zaJ (w:World)(p:Addr)(u:Value):(w.setCell p u).heap.size=w.heap.size:=by simp[World.setCell]
theorem chg_set (w:World)(g i:Nat)(u:Value):Chg w (w.setCell ⟨g,i,none⟩ u) (some g):=fun k hk hne=>Below.heap_setCell _ _ _ _ (by intro e;exact hne (congrArg some e))
theorem lt_of_heap {w:World}{k:Nat}{o:Obj}(h:w.heap[k]? = some o):k<w.heap.size:=(Array.getElem?_eq_some_iff.1 h).1
theorem newG (T:El α)(w:World)(p:α):At T (w.alloc (.cells (T.enc p).toArray T.e)) w.heap.size 0 p:=by
 intro i u hu
 rw[Nat.zero_add,(zaA (zaC w _) i).1]
 rw[List.getElem?_toArray]
 exact hu
theorem newG' (T:El α)(w:World)(p:α)(cs:Array Value)(e:TypeId)(hc:cs.toList=T.enc p)(he:e=T.e):At T (w.alloc (.cells cs e)) w.heap.size 0 p:=by
 subst he
 have:cs=(T.enc p).toArray:=by rw[<- hc]
 rw[this]
 exact newG T w p
theorem step_oneG (T:El α){ops:Array Oper}{o:Oper}{a:Act}{K:Act->World->Prop}{Q:Exit->Act->World->Prop}{E:Prop}(t:TypeId)(ht:Tryz.prog.underlying t=some (.slice T.e))(w:World)(hgd:o.guard=none)(s x:Operand)
  (ho:o.op= .call { callee:=.builtin .append,args:=#[s,x],argTypes:=#[t,t] }) (B:Nat) (v:Value) (done:List α) (p:α) (m:Nat) (hp:T.ok w p) (hs:a.eval s=v) (hown:Own T w B v done) (g1:Nat)
  (hx:a.eval x= .slice (some ⟨g1,0,none⟩) 1 1) (hat:At T w g1 0 p) (hm:done.length+1=m) (hlen:m<=1000000) (hby:T.bytes<=1000) (hB:B<=w.heap.size)
  (h:∀g c w',Own T w' B (.slice (some ⟨g,0,none⟩) m c) (done ++ [p])->Below B w w'->Chg w w' v.ownBlock->K (a.put o.dst (.slice (some ⟨g,0,none⟩) m c)) w'):if Region.wanted o (yielded ops a.tmps)=true then Oper.wp Tryz.prog o a w K Q else E:=by
 have hw:Region.wanted o (yielded ops a.tmps)=true:=by simp[Region.wanted,hgd]
 rw[if_pos hw]
 obtain⟨i0,hi,hz0,hz1,hz2⟩:=info_parts T.info
 have hbig:(done.length+1)*T.bytes<=140737488355328:=by
  have h1:(done.length+1)*T.bytes<=1000001*1000:=Nat.mul_le_mul (by omega) hby
  omega
 refine wp_append_own _ s x t ho B T.e i0 T.z T.s T.bytes ht hi hz0 hz1 hz2 T.zs T.pos v _ _ hs hown ⟨g1,0,none⟩ 1 1 (T.enc p) hx (by rw[T.len,Nat.one_mul]) (fun j u hu=>by rw[g_plain];exact hat j u hu) (T.one hp) (by simp only[maxLen];omega) hbig hB ?_
 intro v' w' ho' hg hn
 have ho2:Own T w' B v' (done ++ [p]):=by
  have ho3:w'.ownsRow B T.e T.s v' (done ++ [p]).length ((done ++ [p]).flatMap T.enc):=by
   rw[List.flatMap_append,List.length_append]
   simpa using ho'
  exact ho3
 have e1:(done ++ [p]).length=m:=by simp;omega
 obtain⟨_,⟨hv,hl⟩ | ⟨g,cap,cur,hv,_⟩⟩:=id ho2
 ·rw[e1] at hl;omega
 ·rw[e1] at hv
  subst hv
  exact h g cap w' ho2 ((Below.refl _ _).grown hg hB (fun k hk=>(World.ownsRow.lt hown k hk).1)) (fun k hk hne=>hg.block k hk hne)
end Go.Proofs.YtlappkflnlbfcaaGreatDoor.Row9
end
