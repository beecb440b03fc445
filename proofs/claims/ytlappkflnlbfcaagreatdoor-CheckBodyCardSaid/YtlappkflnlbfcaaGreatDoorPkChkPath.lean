import Derived.Test.YtlappkflnlbfcaaGreatDoorPkChkTk7
import Derived.Test.YtlappkflnlbfcaaGreatDoorPkChkTk8
import Derived.Test.YtlappkflnlbfcaaGreatDoorPkBodNested
namespace Go.Proofs.YtlappkflnlbfcaaGreatDoor.Chk
open Lib renaming hid → jq
open Go.RowKit Row9 Stk
set_option maxRecDepth 100000
set_option maxHeartbeats 8000000
set_option linter.unusedVariables false
theorem take_9 {w:World}{k:Nat}{V:EV}{E:EnvP}{s:Stk}{op A B K:Int}{LL:List Int}{lab:Value}(h:Cx w k V E (.ok s))(hb:Bd (.ok s) 300000)(hf:FnBd E)(hl:LabAt w k lab LL)(hu:Ints.u64R K)(hT:Ins.KTab w)(hA:Ins.ATab w)(hk:Ins.kd op=9)(hs:Ins.saneI ⟨op,A,B,K,LL⟩=true):Calls Tryz.prog 27 #[.pointer (some ⟨k,0,none⟩),.agg #[.int .i64 op,.int .i64 A,.int .i64 B,.int .u64 K,lab]] w (CkEnds w k V E (pushR [126] (.ok s)) (.tuple #[])):=by
 have HB0:=jq hb
 have HFB:=jq hf
 have HKQ:=jq hk
 have HL0:=jq (hl.keep (zaB w (oJ op A B K lab)))
 have HKT:=jq (hT.keep (zaB w (oJ op A B K lab)))
 have HAT:=jq (hA.keep (zaB w (oJ op A B K lab)))
 have HBT:Hid (But k w (w.alloc (oJ op A B K lab))):=But.of_below (zaB w (oJ op A B K lab))
 have HCK:=jq (h.keep (zaB w (oJ op A B K lab)))
 have HX:=jq (zaC w (oJ op A B K lab))
 have HSN:=jq (Ins.psane_any (x:=⟨op,A,B,K,LL⟩) (o:=lab) HL0.out.sl hu HKT.out)
 rw[hs] at HSN
 rw[show Ins.iv ⟨op,A,B,K,LL⟩ lab= .agg #[.int .i64 op,.int .i64 A,.int .i64 B,.int .u64 K,lab] from rfl] at HSN
 have HKD:=jq (fun W (hW:Ins.KTab W)=>Ins.kind_any op W hW)
 rw[hk] at HKD
 clear h hb hf hl hu hT hA hk hs
 obtain⟨b0,b1,b2,b3,b4⟩:_/\_/\_/\_/\_:=⟨(zaA HX.out 0).1,(zaA HX.out 1).1,(zaA HX.out 2).1,(zaA HX.out 3).1,(zaA HX.out 4).1⟩
 simp only[List.getElem?_toArray,List.getElem?_cons_zero,List.getElem?_cons_succ] at b0 b1 b2 b3 b4
 go_enter Tryz.func27,Tryz.ntmps27
 go_wp2_with fail
 clear b0 b1 b2 b3 b4
 generalize w.alloc (oJ op A B K lab)=u0 at *
 obtain⟨y,hy⟩:∃y,w.heap.size=y:=⟨_,rfl⟩
 rw[hy] at HX
 simp only[hy]
 clear hy
 refine HSN.out.mono ?_
 rintro e w1 ⟨rfl,hb⟩
 have HX1:=jq (blk HX.out hb)
 have HDw:=jq (hb.trans ((zaI w1).mono hb.size))
 have HCF:=jq (HCK.out.keep HDw.out)
 have HLF:=jq (HL0.out.keep HDw.out)
 have HTF:=jq (HAT.out.keep HDw.out)
 have HKF:=jq (HKD.out w1.drew (HKT.out.keep HDw.out))
 have HSF:=jq (stepOf_9 w1.drew)
 have HBF:=jq (HBT.out.trans (But.of_below HDw.out))
 obtain⟨b0,b1,b2,b3,b4⟩:_/\_/\_/\_/\_:=⟨(zaA HX1.out 0).1,(zaA HX1.out 1).1,(zaA HX1.out 2).1,(zaA HX1.out 3).1,(zaA HX1.out 4).1⟩
 simp only[List.getElem?_toArray,List.getElem?_cons_zero,List.getElem?_cons_succ] at b0 b1 b2 b3 b4
 clear hb HSN
 go_wp2_with fail
 go_region_law (first
  | (go_simp;go_at_call 61;(with_reducible refine Calls.mono HKF.out ?_);rintro e w2 ⟨rfl,hw2⟩;obtain rfl:=hw2)
  | (go_simp;go_at_call 60;(with_reducible refine Calls.mono HSF.out ?_);rintro e w3 ⟨rfl,hw3⟩;obtain rfl:=hw3)
  | (go_simp;go_at_call 101;refine Calls.mono (const64_ck HCF.out HB0.out) ?_;rintro e w4 ⟨rfl,hc,hbt⟩;have HBT4:=jq (HBF.out.trans hbt);have HCK4:=jq hc;clear hc hbt))
 all_goals (
  clear b0 b1 b2 b3 b4
  go_wp2_with fail
  exact bodyPost_end (v:=.tuple #[]) (by simp[results,Tryz.results27,go_sem]) rfl ⟨rfl,HCK4.out,HBT4.out⟩)
theorem take_no {w:World}{k:Nat}{V:EV}{E:EnvP}{s:Stk}{op A B K:Int}{LL:List Int}{lab:Value}(h:Cx w k V E (.ok s))(hl:LabAt w k lab LL)(hu:Ints.u64R K)(hT:Ins.KTab w)(hs:Ins.saneI ⟨op,A,B,K,LL⟩=false):Calls Tryz.prog 27 #[.pointer (some ⟨k,0,none⟩),.agg #[.int .i64 op,.int .i64 A,.int .i64 B,.int .u64 K,lab]] w (CkEnds w k V E (.er 1) (.tuple #[])):=by
 have HL0:=jq (hl.keep (zaB w (oJ op A B K lab)))
 have HBT:Hid (But k w (w.alloc (oJ op A B K lab))):=But.of_below (zaB w (oJ op A B K lab))
 have HCK:=jq (h.keep (zaB w (oJ op A B K lab)))
 have HX:=jq (zaC w (oJ op A B K lab))
 have HSN:=jq (Ins.psane_any (x:=⟨op,A,B,K,LL⟩) (o:=lab) HL0.out.sl hu (hT.keep (zaB w (oJ op A B K lab))))
 rw[hs] at HSN
 rw[show Ins.iv ⟨op,A,B,K,LL⟩ lab= .agg #[.int .i64 op,.int .i64 A,.int .i64 B,.int .u64 K,lab] from rfl] at HSN
 clear h hl hu hT hs
 obtain⟨b0,b1,b2,b3,b4⟩:_/\_/\_/\_/\_:=⟨(zaA HX.out 0).1,(zaA HX.out 1).1,(zaA HX.out 2).1,(zaA HX.out 3).1,(zaA HX.out 4).1⟩
 simp only[List.getElem?_toArray,List.getElem?_cons_zero,List.getElem?_cons_succ] at b0 b1 b2 b3 b4
 go_enter Tryz.func27,Tryz.ntmps27
 go_wp2_with fail
 clear b0 b1 b2 b3 b4
 refine HSN.out.mono ?_
 rintro e w1 ⟨rfl,hb⟩
 have HBT:=jq (HBT.out.trans (But.of_below hb))
 have HCK:=jq (HCK.out.keep hb)
 clear hb
 go_wp2_with fail
 refine(need_ck HCK.out (by decide)).mono ?_
 rintro e w2 ⟨rfl,hc,hbt⟩
 have HBT:=jq (HBT.out.trans hbt)
 have HCK:=jq hc
 clear hc hbt
 go_wp2_with fail
 exact bodyPost_end (v:=.tuple #[]) (by simp[results,Tryz.results27,go_sem]) rfl ⟨rfl,HCK.out,HBT.out⟩
def instrR (E:EnvP)(i:Ins.Ins)(s:Stk):Rs:=if Ins.saneI i=false then .er 1 else takeR E i s
theorem kd_nz {i:Ins.Ins}(h:Ins.saneI i=true):Ins.kd i.op≠0:=fun e=>by
 rw[Ins.saneI_eq,e,Ins.saneK_0] at h
 cases h
theorem take_ck {w:World}{k:Nat}{V:EV}{E:EnvP}{s:Stk}{i:Ins.Ins}{lab:Value}(h:Cx w k V E (.ok s))(hb:Bd (.ok s) 300000)(hf:FnBd E)(hl:LabAt w k lab i.L)(hu:Ints.u64R i.K)(hT:Ins.KTab w)(hA:Ins.ATab w):Calls Tryz.prog 27 #[.pointer (some ⟨k,0,none⟩),.agg #[.int .i64 i.op,.int .i64 i.A,.int .i64 i.B,.int .u64 i.K,lab]] w (CkEnds w k V E (instrR E i s) (.tuple #[])):=by
 obtain⟨op,A,B,K,LL⟩:=i
 unfold instrR
 cases hs:Ins.saneI ⟨op,A,B,K,LL⟩ with
 | false=>exact take_no h hl hu hT hs
 | true=>
  have hr:=Ins.kd_range op
  have hz:=kd_nz hs
  simp only at hz
  show Calls _ _ _ _ (CkEnds w k V E (takeR E ⟨op,A,B,K,LL⟩ s) (.tuple #[]))
  unfold takeR
  by_cases h1:Ins.kd op=1
  ·rw[if_pos h1];exact take_1 h hb hf hl hu hT hA h1 hs
  ·rw[if_neg h1]
   by_cases h2:Ins.kd op=2
   ·rw[if_pos h2];exact take_2 h hb hf hl hu hT hA h2 hs
   ·rw[if_neg h2]
    by_cases h3:Ins.kd op=3
    ·rw[if_pos h3];exact take_3 h hb hf hl hu hT hA h3 hs
    ·rw[if_neg h3]
     by_cases h4:Ins.kd op=4
     ·rw[if_pos h4];exact take_4 h hb hf hl hu hT hA h4 hs
     ·rw[if_neg h4]
      by_cases h5:Ins.kd op=5
      ·rw[if_pos h5];exact take_5 h hb hf hl hu hT hA h5 hs
      ·rw[if_neg h5]
       by_cases h6:Ins.kd op=6
       ·rw[if_pos h6];exact take_6 h hb hf hl hu hT hA h6 hs
       ·rw[if_neg h6]
        by_cases h7:Ins.kd op=7
        ·rw[if_pos h7];exact take_7 h hb hf hl hu hT hA h7 hs
        ·rw[if_neg h7]
         by_cases h8:Ins.kd op=8
         ·rw[if_pos h8];exact take_8 h hb hf hl hu hT hA h8 hs
         ·rw[if_neg h8]
          exact take_9 h hb hf hl hu hT hA (by show Ins.kd op=9;obtain ⟨ha,hb'⟩:=hr;omega) hs
theorem Bd.ite {c:Prop}[Decidable c]{x y:Rs}{n:Nat}(h1:Bd x n)(h2:Bd y n):Bd (if c then x else y) n:=by
 split
 ·exact h1
 ·exact h2
theorem typeE_le {E:EnvP}(h:FnBd E)(f:Int):((typeE E f).getD ([],[])).2.length<=1000:=by
 cases ht:typeE E f with
 | none=>exact Nat.zero_le _
 | some p=>
  unfold typeE at ht
  cases hf:atL E.funcs f with
  | none=>rw[hf] at ht;cases ht
  | some n=>rw[hf] at ht;exact(h.1 p (atL_mem ht)).2
theorem atE_le {E:EnvP}(h:FnBd E)(n:Int):((atL E.types n).getD ([],[])).2.length<=1000:=by
 cases ht:atL E.types n with
 | none=>exact Nat.zero_le _
 | some p=>exact (h.1 p (atL_mem ht)).2
theorem Bd.plain {E:EnvP}{op:Int}{s:Stk}{n:Nat}(h:Bd (.ok s) n):Bd (plainR E op s) (n+1001):=by
 unfold plainR
 refine Bd.ite (h.kill.mono (by omega)) (Bd.ite ((h.push (l:=[]) (m:=0) (Nat.zero_le _)).mono (by omega)) (Bd.ite (?_) (Bd.ite ?_ (Bd.ite (h.want.kill.mono (by omega)) (Bd.ite (h.pop.mono (by omega)) (Bd.ite ?_ ?_))))))
 ·exact ((h.need.close).open).mono (by omega)
 ·exact ((h.need.close.need).push (closed_len _)).mono (by omega)
 ·exact ((h.want.pop.pop.need).push (m:=1) (Nat.le_refl _)).mono (by omega)
 ·exact (h.want.push (m:=1) (Nat.le_refl _)).mono (by omega)
theorem Bd.block {op A:Int}{s:Stk}{n:Nat}(h:Bd (.ok s) n):Bd (blockR op A s) (n+1001):=
 ((Bd.ite (h.want) h).open).mono (by omega)
theorem Bd.loc {op v:Int}{x:Rs}{n:Nat}(h:Bd x n):Bd (localR op v x) (n+1001):=by
 unfold localR
 simp only
 exact Bd.ite ((Bd.ite h h.want).mono (by omega)) (((Bd.ite h h.want).push (m:=1) (Nat.le_refl _)).mono (by omega))
theorem Bd.call {f:List Int×List Int}{x:Rs}{n:Nat}(h:Bd x n)(hf:f.2.length<=1000):Bd (callR f x) (n+1001):=
 (h.want.push hf).mono (by omega)
theorem Bd.idx {E:EnvP}(hE:FnBd E){op A:Int}{s:Stk}{n:Nat}(h:Bd (.ok s) n):Bd (indexR E op A s) (n+1001):=by
 unfold indexR
 refine Bd.ite (h.label.want.kill.mono (by omega)) (Bd.ite (((h.label.want.want).push (labelL_len _ _)).mono (by omega)) (Bd.ite (h.need.call (typeE_le hE A)) (Bd.ite (Bd.loc (h.need)) (Bd.ite ((h.need.push (m:=1) (Nat.le_refl _)).mono (by omega)) (Bd.ite (h.need.need.want.mono (by omega)) (h.mono (by omega)))))))
theorem Bd.take {E:EnvP}(hE:FnBd E){i:Ins.Ins}{s:Stk}{n:Nat}(h:Bd (.ok s) n):Bd (takeR E i s) (n+1001):=by
 unfold takeR
 refine Bd.ite h.plain (Bd.ite h.block (Bd.ite (h.idx hE) (Bd.ite ((Bd.tab _ h.label).want.want.kill.mono (by omega)) (Bd.ite (h.need.need.want.call (atE_le hE _)) (Bd.ite ?_ (Bd.ite ?_ (Bd.ite ?_ ?_)))))))
 ·unfold accessR
  simp only
  exact Bd.ite (h.need.need.want.mono (by omega)) ((h.need.need.want.push (m:=1) (Nat.le_refl _)).mono (by omega))
 ·exact ((Bd.ite h.need h.need.want).push (m:=1) (Nat.le_refl _)).mono (by omega)
 ·exact (h.push (m:=1) (Nat.le_refl _)).mono (by omega)
 ·exact (h.push (m:=1) (Nat.le_refl _)).mono (by omega)
theorem Bd.er (e:Int)(n:Nat):Bd (.er e) n:=fun s h=>by cases h
theorem Bd.instr {E:EnvP}(hE:FnBd E){i:Ins.Ins}{s:Stk}{n:Nat}(h:Bd (.ok s) n):Bd (instrR E i s) (n+1001):=by
 unfold instrR
 exact Bd.ite (Bd.er _ _) (h.take hE)
def opsP (l:List Ins.Ins):List Int:=l.map (·.op)
def pathGo (E:EnvP):List Ins.Ins->Stk->List Stk×Int
 | [],s=>([s],0)
 | i :: l,s=>match instrR E i s with
  | .ok t=>(s :: (pathGo E l t).1,(pathGo E l t).2)
  | .er e=>([s],e)
def s0 (E:EnvP):Stk:=⟨[],[⟨2,E.results,0,false⟩]⟩
def pathR (E:EnvP)(l:List Ins.Ins):List Stk×Int:=
 if Bod.dM (opsP l)=none then ([],3) else if saneE E=false then ([],1) else pathGo E l (s0 E)
theorem start_ok {E:EnvP}(h:saneE E=true):openR 2 E.results (.ok ⟨[],[]⟩)= .ok (s0 E):=by
 have hr:Typ.sane [] E.results=true:=by
  unfold saneE at h
  simp only[Bool.and_eq_true] at h
  exact h.1.1.1
 have hm:mayE E.results=true:=by
  unfold Typ.sane at hr
  generalize E.results=r at hr
  match r with
  | []=>rfl
  | [x]=>
   simp only[List.length_nil,Nat.zero_le,decide_true,cond_true,List.length_singleton,Nat.le_refl] at hr
   have hx:Typ.isV x=true:=by
    cases hq:Typ.allV [x] with
    | true=>exact Typ.allV_true hq x (List.mem_singleton.2 rfl)
    | false=>rw[hq] at hr;simp at hr
   unfold Typ.isV at hx
   show isV x=true
   unfold isV
   rcases of_decide_eq_true hx with rfl | rfl
   ·rfl
   ·rfl
  | x :: y :: z=>simp at hr
 show ofP (openS ⟨[],[]⟩ 2 E.results)=_
 unfold openS
 rw[if_neg (by simp[sane,sgo]),if_neg (by rw[hm];simp)]
 rfl
theorem s0_bd (E:EnvP):Bd (.ok (s0 E)) 1:=fun s h=>by
 injection h with h
 subst h
 exact⟨Nat.zero_le _,Nat.le_refl _⟩
inductive Tw (B:Nat):World->World->Prop
 | refl (w:World):Tw B w w
 | keep {w w1 w2:World}:Tw B w w1->Below w1.heap.size w1 w2->Tw B w w2
 | but {w w1 w2:World} {z:Nat} {cs:Array Value} {t:TypeId}:Tw B w w1->NoBB w1 z->B<=z->w1.heap[z]? = some (.cells cs t (0,0))->t≠78->t≠33->But z w1 w2->Tw B w w2
theorem Tw.low {B:Nat}{w w' w0:World}(h:Tw B w w')(hb:Below B w0 w)(hB:B<=w0.heap.size):Below B w0 w':=by
 induction h with
 | refl=>exact hb
 | keep _ h2 ih=>exact ih.trans (h2.mono (Nat.le_trans hB ih.size))
 | but _ _ hz hc _ _ h2 ih=>exact ih.trans (h2.below hz (jl hc))
theorem Tw.block {B:Nat}{w w':World}(h:Tw B w w'){r:Nat}{cs:Array Value}{t:TypeId}(hr:w.heap[r]? = some (.cells cs t (0,0)))(ht:t=78\/t=33):w'.heap[r]? = some (.cells cs t (0,0)):=by
 induction h with
 | refl=>exact hr
 | keep _ h2 ih=>exact blk ih h2
 | but _ _ hz hc h3 h4 h2 ih=>
  rename_i z cs' t' _
  refine(h2.block r (jl ih) (fun e=>?_)).trans ih
  subst e
  rw[ih] at hc
  injection hc with hc
  injection hc with _ hc
  rcases ht with rfl | rfl
  ·exact h3 hc.symm
  ·exact h4 hc.symm
theorem Tw.stk {B:Nat}{w w':World}(h:Tw B w w'){v:Value}{s:Stk}(hs:StIs elP w v s):StIs elP w' v s:=by
 induction h with
 | refl=>exact hs
 | keep _ h2 ih=>exact ih.keep h2
 | but _ h1 _ _ _ _ h2 ih=>exact StIs.apart (e:=72) (hi:=infoP) ih h1 h2
theorem Tw.cx {w w' w0:World}{k:Nat}{V:EV}{E:EnvP}{x:Rs}(h:Tw w0.heap.size w w')(hc:Cx w k V E x)(h0:EnvOk elGP w0 V E)(hk:w0.heap.size<=k)(hb:Below w0.heap.size w0 w):Cx w' k V E x:=by
 obtain⟨⟨P,n,c,Q,m,d,h1,h2⟩,h3,_⟩:=hc
 exact⟨⟨P,n,c,Q,m,d,h.block h1 (.inl rfl),fun s hs=>h.stk (h2 s hs)⟩,h3,w0,h0,hk,h.low hb (Nat.le_refl _)⟩
structure Tell (w0:World) (V:EV) (E:EnvP) (g:FuncId) (cap:Value) (J:List Stk->World->Prop):Prop where
 ok:Stab.FnOk Tryz.prog g
 keep:∀ {t:List Stk} {w w':World},J t w->Below w.heap.size w w'->J t w'
 but:∀ {t:List Stk} {w w':World} {k:Nat} {P:Option Addr} {n c:Nat} {Q:Option Addr} {m d:Nat} {e:Int},J t w->w0.heap.size<=k->w.heap[k]? = some (ckObj V E (.slice P n c) (.slice Q m d) e)->But k w w'->J t w'
 call:∀ {t:List Stk} {w:World} {v:Value} {s:Stk},J t w->t.length<=1000->StIs elP w v s->Bd (.ok s) 300000->Below w0.heap.size w0 w->Calls Tryz.prog g (#[v] ++ #[cap]) w fun e w'=>e= .returned (.tuple #[])/\J (t ++ [s]) w'/\Tw w0.heap.size w w'
theorem Tell.cx {w0:World}{V:EV}{E:EnvP}{g:FuncId}{cap:Value}{J:List Stk->World->Prop}(T:Tell w0 V E g cap J){t:List Stk}{w w':World}{k:Nat}{x:Rs}(h:J t w)(hk:w0.heap.size<=k)(hc:Cx w k V E x)(hb:But k w w'):J t w':=by
 obtain⟨P,n,c,Q,m,d,e,h1⟩:=hc.heap
 exact T.but h hk h1 hb
def OwnAll (p:Value->Prop)(w:World)(v:Value):Prop:=∀g cur e fr,v.ownBlock=some g->w.heap[g]? = some (.cells cur e fr)->∀u∈cur.toList,p u
theorem zero_mem {z:Array Value}{n:Nat}{u:Value}(h:u∈(Builtin.zeroCells z n).toList):u∈z.toList:=by
 rw[Array.mem_toList_iff] at h ⊢
 unfold Builtin.zeroCells at h
 obtain⟨i,hi,rfl⟩:=Array.mem_map.1 h
 rw[Array.mem_range] at hi
 have hz:0<z.size:=by
  rcases Nat.eq_zero_or_pos z.size with h0 | h0
  ·rw[h0] at hi;omega
  ·exact h0
 have hm:=Nat.mod_lt i hz
 rw[getElem!_pos z _ hm]
 exact Array.getElem_mem hm
theorem all_of_app {α:Type}{T:El α}{p:Value->Prop}(hz:∀u∈T.z.cells.toList,p u){t ty:TypeId}(ht:Tryz.prog.underlying t=some (.slice T.e)){w:World}{B:Nat}{v:Value}{l:List α}{a:α}(hown:Own T w B v l)(hall:OwnAll p w v){g1:Nat}(hat:At T w g1 0 a)(hok:T.ok w a)(ha:∀u∈T.enc a,p u)(hlen:l.length<=1000000)(hby:T.bytes<=1000){v':Value}{w':World}
  (hr:(Builtin.append_ #[t,t] ty #[v,.slice (some ⟨g1,0,none⟩) 1 1]).run Tryz.prog w= .ok v' w'):OwnAll p w' v':=by
 obtain⟨i,hi,hz0,hz1,hz2⟩:=info_parts T.info
 have hl1:(T.enc a).length=1*i.size:=by rw[T.len,hz1,Nat.one_mul]
 have hnews:∀j u,(T.enc a)[j]? = some u->w.cell? ((⟨g1,0,none⟩:Addr).add j)=some u:=fun j u hu=>by rw[g_plain];exact hat j u hu
 have hbig:(l.length+1)*i.bytes<=140737488355328:=by
  rw[hz2]
  have h1:(l.length+1)*T.bytes<=1000001*1000:=Nat.mul_le_mul (by omega) hby
  omega
 have hxp:∀ {n:Nat} {cur:Array Value},(∀u∈cur.toList,p u)->∀u∈cur.toList.take n,p u:=fun h u hu=>h u (List.mem_of_mem_take hu)
 rcases hown.2 with ⟨rfl,hn⟩ | ⟨g,cap,cur,rfl,hbg,hg,hnc,hcm,hcs,htake⟩
 ·rw[run_append_nil (P:=Tryz.prog) w t ty T.e i T.z ht hi hz0 ⟨g1,0,none⟩ 1 1 _ hl1 hnews (by omega) (by omega) (by have:=hbig;rw[hn,Nat.zero_add] at this;omega)] at hr
  injection hr with h1 h2
  subst h1 h2
  intro g cur e fr hgb hc u hu
  simp only[Value.ownBlock,Option.some.injEq] at hgb
  subst hgb
  have:=heap_alloc_new w.drew (.cells ((T.enc a).toArray ++ Builtin.zeroCells T.z.cells (grownCap w 1 0 T.e - 1)) T.e)
  rw[show w.drew.heap.size=w.heap.size from rfl] at this
  rw[this] at hc
  injection hc with hc
  injection hc with hc
  subst hc
  simp only[Array.toList_append,List.mem_append] at hu
  rcases hu with hu | hu
  ·exact ha u hu
  ·exact hz u (zero_mem hu)
 ·have hcur:=hall g cur T.e (0,0) rfl hg
  by_cases hroom:l.length+1<=cap
  ·rw[run_append_room (P:=Tryz.prog) w t ty T.e i ht hi g l.length cap cur hg ⟨g1,0,none⟩ 1 1 _ hl1 hnews (T.one hok) hroom (by rw[T.len,hz1,hcs,<- Nat.succ_mul];exact Nat.mul_le_mul_right _ hroom)] at hr
   injection hr with h1 h2
   subst h1 h2
   intro g' cur' e fr hgb hc u hu
   simp only[Value.ownBlock,Option.some.injEq] at hgb
   subst hgb
   rw[setRow_heap w g cur _ T.e _ hg] at hc
   injection hc with hc
   injection hc with hc
   subst hc
   simp only[List.mem_append] at hu
   rcases hu with (hu | hu) | hu
   ·exact hcur u (List.mem_of_mem_take hu)
   ·exact ha u hu
   ·exact hcur u (List.mem_of_mem_drop hu)
  ·have hlo:(l.flatMap T.enc).length=l.length*i.size:=by rw[flat_len,hz1]
   rw[run_append_grow (P:=Tryz.prog) w t ty T.e i T.z ht hi hz0 ⟨g,0,none⟩ l.length cap (l.flatMap T.enc) hlo (World.ownsRow.cells hown (g:=g) rfl) ⟨g1,0,none⟩ 1 1 _ hl1 hnews (by omega) (by omega) (growslice_fits (by omega) hbig)] at hr
   injection hr with h1 h2
   subst h1 h2
   intro g' cur' e fr hgb hc u hu
   simp only[Value.ownBlock,Option.some.injEq] at hgb
   subst hgb
   have:=heap_alloc_new w.drew (.cells ((l.flatMap T.enc).toArray ++ (T.enc a).toArray ++ Builtin.zeroCells T.z.cells (grownCap w (l.length+1) cap T.e - (l.length+1))) T.e)
   rw[show w.drew.heap.size=w.heap.size from rfl] at this
   rw[this] at hc
   injection hc with hc
   injection hc with hc
   subst hc
   simp only[Array.toList_append,List.mem_append] at hu
   rcases hu with (hu | hu) | hu
   ·rw[<- htake] at hu
    exact hcur u (List.mem_of_mem_take (by simpa using hu))
   ·exact ha u hu
   ·exact hz u (zero_mem hu)
theorem wp_oneP {α:Type}(T:El α)(p:Value->Prop)(hz:∀u∈T.z.cells.toList,p u){ops:Array Oper}{rest:List Oper}{o:Oper}{a:Act}{Q:Exit->Act->World->Prop}(t:TypeId)(ht:Tryz.prog.underlying t=some (.slice T.e))(w:World)(hgd:o.guard=none)(s x:Operand)
  (ho:o.op= .call { callee:=.builtin .append,args:=#[s,x],argTypes:=#[t,t] }) (B:Nat) (v:Value) (done:List α) (y:α) (hy:T.ok w y) (hyp:∀u∈T.enc y,p u) (hs:a.eval s=v) (hown:Own T w B v done) (hall:OwnAll p w v) (g1:Nat)
  (hx:a.eval x= .slice (some ⟨g1,0,none⟩) 1 1) (hat:At T w g1 0 y) (hlen:done.length<=1000000) (hby:T.bytes<=1000) (hB:B<=w.heap.size)
  (h:∀v' w',Own T w' B v' (done ++ [y])->OwnAll p w' v'->w.grownBy w' v.ownBlock->wpList Tryz.prog ops Q rest (a.put o.dst v') w'):wpList Tryz.prog ops Q (o :: rest) a w:=by
 refine wpList_plain hgd fun K hK=>?_
 obtain⟨i0,hi,hz0,hz1,hz2⟩:=info_parts T.info
 have hbig:(done.length+1)*T.bytes<=140737488355328:=by
  have h1:(done.length+1)*T.bytes<=1000001*1000:=Nat.mul_le_mul (by omega) hby
  omega
 obtain⟨v',w',hr,h1,h2,_⟩:=run_append_own (P:=Tryz.prog) w B t o.type T.e i0 T.z T.s T.bytes ht hi hz0 hz1 hz2 T.zs T.pos v _ _ hown ⟨g1,0,none⟩ 1 1 (T.enc y) (by rw[T.len,Nat.one_mul]) (fun j u hu=>by rw[g_plain];exact hat j u hu) (T.one hy) (by simp only[maxLen];omega) hbig hB
 have ho2:Own T w' B v' (done ++ [y]):=by
  have ho3:w'.ownsRow B T.e T.s v' (done ++ [y]).length ((done ++ [y]).flatMap T.enc):=by
   rw[List.flatMap_append,List.length_append]
   simpa using h1
  exact ho3
 have hal:=all_of_app hz ht hown hall hat hy hyp hlen hby hr
 unfold Oper.wp
 simp only[execOp,ho,resolve,invoke,builtin,Sem.run_bind,Sem.run_pure,Result.andThen_ok,List.map_toArray,List.map_cons,List.map_nil,hs,hx,hr]
 exact hK _ _ (h v' w' ho2 hal h2)
theorem opsL_P (l:List (Ins.Ins×Value)):Bod.opsL l=opsP (l.map (·.1)):=by simp[Bod.opsL,opsP]
theorem cells7 {w:World}{y:Nat}{a b c d e f g:Value}{t:TypeId}(h:w.heap[y]? = some (.cells #[a,b,c,d,e,f,g] t (0,0))):w.cell? ⟨y,0,none⟩=some a/\w.cell? ⟨y,1,none⟩=some b/\w.cell? ⟨y,2,none⟩=some c/\w.cell? ⟨y,3,none⟩=some d/\w.cell? ⟨y,4,none⟩=some e/\w.cell? ⟨y,5,none⟩=some f/\w.cell? ⟨y,6,none⟩=some g:=
 ⟨(zaA h 0).1,(zaA h 1).1,(zaA h 2).1,(zaA h 3).1,(zaA h 4).1,(zaA h 5).1,(zaA h 6).1⟩
theorem cells5i {w:World}{y:Nat}{a b c d e:Value}{t:TypeId}(h:w.heap[y]? = some (.cells #[a,b,c,d,e] t (0,0))):w.cell? ⟨y,0,none⟩=some a/\w.cell? ⟨y,1,none⟩=some b/\w.cell? ⟨y,2,none⟩=some c/\w.cell? ⟨y,3,none⟩=some d/\w.cell? ⟨y,4,none⟩=some e:=
 ⟨(zaA h 0).1,(zaA h 1).1,(zaA h 2).1,(zaA h 3).1,(zaA h 4).1⟩
theorem stis_nil (w:World):StIs elP w (.agg #[.slice none 0 0,.slice none 0 0]) ⟨[],[]⟩:=StIs.none_ _ w
theorem go_cons {l:List Ins.Ins}{j:Nat}{i:Ins.Ins}(h:l[j]? = some i):l.drop j=i :: l.drop (j+1):=by
 obtain⟨hj,hi⟩:=List.getElem?_eq_some_iff.1 h
 rw[List.drop_eq_getElem_cons hj,hi]
theorem walk_any {w0 w:World}{V:EV}{E:EnvP}{g:FuncId}{cap:Value}{J:List Stk->World->Prop}{A:Option Addr}{n c:Nat}{l:List (Ins.Ins×Value)}(T:Tell w0 V E g cap J)(h0:EnvOk elGP w0 V E)(hr:Ins.InRow w0 (.slice A n c) l)(hK:Ins.KTab w0)(hA:Ins.ATab w0)(hF:FnBd E)(hln:l.length=n)(hn:n<=200)(hb:Below w0.heap.size w0 w)(hJ:J [] w):
  Calls Tryz.prog 46 #[evV V E,.slice A n c,.func (.func g) #[] #[cap]] w fun e w'=>e= .returned (.int .i64 (pathR E (l.map (·.1))).2)/\J (pathR E (l.map (·.1))).1 w'/\Below w0.heap.size w0 w':=by
 have hrun:=run_k T.ok
 have HLN:=jq hln
 have HFB:=jq hF
 have HT:Hid (Tell w0 V E g cap J):=T
 have HE0:=jq h0
 have HR0:=jq hr
 have HK0:=jq hK
 have HA0:=jq hA
 have HOP:=jq (opsL_P l)
 have HNB:Hid (n<=200):=hn
 have HB1:=jq (hb.trans ((zaB w (.cells #[.slice V.Pt V.nt V.ct,.slice V.Pf V.nf V.cf,.int .i64 E.tables,.int .i64 E.mems,.slice V.Pg V.ng V.cg,.slice V.Pl V.nl V.cl,.slice V.Pr V.nr V.cr] 45)).mono hb.size))
 have HJ1:=jq (T.keep hJ (zaB w (.cells #[.slice V.Pt V.nt V.ct,.slice V.Pf V.nf V.cf,.int .i64 E.tables,.int .i64 E.mems,.slice V.Pg V.ng V.cg,.slice V.Pl V.nl V.cl,.slice V.Pr V.nr V.cr] 45)))
 have HX:=jq (zaC w (.cells #[.slice V.Pt V.nt V.ct,.slice V.Pf V.nf V.cf,.int .i64 E.tables,.int .i64 E.mems,.slice V.Pg V.ng V.cg,.slice V.Pl V.nl V.cl,.slice V.Pr V.nr V.cr] 45))
 have HM:=jq (Bod.matches_any (hK.keep HB1.out) hln (by omega) (hr.keep HB1.out))
 unfold Bod.PMat at HM
 rw[HOP.out] at HM
 clear T hln hF h0 hr hK hA hn hb hJ
 have HPR:Hid (pathR E (l.map (·.1))=if Bod.dM (opsP (l.map (·.1)))=none then ([],3) else if saneE E=false then ([],1) else pathGo E (l.map (·.1)) (s0 E)):=rfl
 generalize hpr:pathR E (l.map (·.1))=R at *
 clear hpr
 show Calls _ _ #[.agg #[.slice V.Pt V.nt V.ct,.slice V.Pf V.nf V.cf,.int .i64 E.tables,.int .i64 E.mems,.slice V.Pg V.ng V.cg,.slice V.Pl V.nl V.cl,.slice V.Pr V.nr V.cr],.slice A n c,.func (.func g) #[] #[cap]] _ _
 go_enter Tryz.func46,Tryz.ntmps46
 go_wp2_with fail
 generalize w.alloc (.cells #[.slice V.Pt V.nt V.ct,.slice V.Pf V.nf V.cf,.int .i64 E.tables,.int .i64 E.mems,.slice V.Pg V.ng V.cg,.slice V.Pl V.nl V.cl,.slice V.Pr V.nr V.cr] 45)=u0 at *
 obtain⟨y,hy⟩:∃y,w.heap.size=y:=⟨_,rfl⟩
 rw[hy] at HX
 simp only[hy]
 clear hy
 refine HM.out.mono ?_
 rintro e w1 ⟨hres,hb⟩
 have HB:=jq (HB1.out.trans (hb.mono HB1.out.size))
 have HJ:=jq (HT.out.keep HJ1.out hb)
 have HX:=jq (blk HX.out hb)
 clear hb HM HJ1 HB1
 cases hd:Bod.dM (opsP (l.map (·.1))) with
 | none=>
  rw[hd] at hres
  obtain rfl:=hres
  rw[hd,if_pos rfl] at HPR
  clear hd
  go_wp2_with fail
  exact bodyPost_ret (v:=.int .i64 3) (by simp[results,Tryz.results46,go_sem]) rfl ⟨by rw[HPR.out],by rw[HPR.out];exact HJ.out,HB.out⟩
 | some ms=>
  rw[hd] at hres
  obtain⟨vM,rfl,_⟩:=hres
  rw[hd,if_neg (by simp)] at HPR
  clear hd
  obtain⟨b0,b1,b2,b3,b4,b5,b6⟩:=cells7 HX.out
  go_wp2_with fail
  refine(isSane_any (HE0.out.keep HB.out) HFB.out).mono ?_
  rintro e w2 ⟨rfl,hb⟩
  have HJ:=jq (HT.out.keep HJ.out hb)
  have HX:=jq (blk HX.out hb)
  have HB:=jq (HB.out.trans (hb.mono HB.out.size))
  clear hb b0 b1 b2 b3 b4 b5 b6
  cases hs:saneE E with
  | false=>
   rw[hs,if_pos rfl] at HPR
   clear hs
   go_wp2_with fail
   exact bodyPost_ret (v:=.int .i64 1) (by simp[results,Tryz.results46,go_sem]) rfl ⟨by rw[HPR.out],by rw[HPR.out];exact HJ.out,HB.out⟩
  | true=>
   rw[hs,if_neg (by simp)] at HPR
   have HST:=jq (start_ok hs)
   clear hs
   obtain⟨b0,b1,b2,b3,b4,b5,b6⟩:=cells7 HX.out
   have bl:=jl HX.out
   have HNK:=jq (zaB w2 (ckObj V E (.slice none 0 0) (.slice none 0 0) 0))
   have HCK:Hid (Cx (w2.alloc (ckObj V E (.slice none 0 0) (.slice none 0 0) 0)) w2.heap.size V E (.ok ⟨[],[]⟩)):=jq ⟨⟨none,0,0,none,0,0,zaC _ _,fun s h=>by injection h with h;subst h;exact stis_nil _⟩,(fun e h=>nomatch h),w0,HE0.out,HB.out.size,HB.out.trans (HNK.out.mono HB.out.size)⟩
   have HXN:=jq (blk HX.out HNK.out)
   obtain⟨d0,d1,d2,d3,d4,d5,d6⟩:=cells7 HXN.out
   go_wp2_with fail
   clear b0 b1 b2 b3 b4 b5 b6 d0 d1 d2 d3 d4 d5 d6 bl
   have HJ:=jq (HT.out.keep HJ.out HNK.out)
   have HBW:=jq (HB.out.trans (HNK.out.mono HB.out.size))
   have HKB:Hid (w0.heap.size<=w2.heap.size):=HB.out.size
   have HRR:=jq (HE0.out.keep HBW.out).r
   have HRL:=jq HFB.out.2
   refine(open_ck HCK.out (fun s h=>by injection h with h;subst h;exact⟨Nat.zero_le _,Nat.zero_le _⟩) (show w64 2 by unfold w64;omega) HRR.out (by have:=HRL.out;omega)).mono ?_
   clear HRR HRL HX HXN HB HNK
   rw[HST.out]
   rintro e w3 ⟨rfl,hc,hbt⟩
   have HJ:=jq (HT.out.cx HJ.out HKB.out HCK.out hbt)
   have HB:=jq (HBW.out.trans (hbt.below HKB.out HCK.out.lt))
   have HCK:=jq hc
   clear hc hbt HBW HST
   generalize w2.heap.size=k at *
   go_wp2_with fail
   go_loopw [29] (fun i' wr=>∃ (i:Nat) (s:Stk) (t:List Stk),i'= .int .i64 (i:Int)/\i<=n/\t.length=i/\Cx wr k V E (.ok s)/\Bd (.ok s) (1+i*1001)/\J t wr/\Below w0.heap.size w0 wr/\R=(t ++ (pathGo E ((l.map (·.1)).drop i) s).1,(pathGo E ((l.map (·.1)).drop i) s).2)) (fun i' _=>n - (intOf i').toNat)
   case atStart=>exact ⟨0,s0 E,[],by go_num,Nat.zero_le _,rfl,HCK.out,(s0_bd E).mono (by omega),HJ.out,HB.out,by rw[HPR.out];simp⟩
   case round=>
    obtain⟨i,s,t,rfl,hi,htl,hcx,hbd,hjt,hbw,hpr⟩:=hrel
    have HCX:=jq hcx
    have HBD:=jq hbd
    have HJT:=jq hjt
    have HBW:=jq hbw
    have HTR:=jq hpr
    have HTL:=jq htl
    have HBI:Hid (Bd (.ok s) 300000):=hbd.mono (by have:=HNB.out;omega)
    clear hcx hbd hjt hbw hpr htl
    have HCB:=jq (HCX.out.ok)
    by_cases hlt:i<n
    ·obtain ⟨p,hp⟩:∃p,l[i]? = some p:=⟨_,List.getElem?_eq_getElem (by rw[HLN.out];exact hlt)⟩
     obtain⟨gI,off,rfl,hic,hio⟩:=(HR0.out.keep HBW.out).at_ hp
     have HLP:Hid ((l.map (·.1))[i]? = some p.1):=jq (by rw[List.getElem?_map,hp];rfl)
     have HLB:Hid (∀W,Below w0.heap.size w0 W->LabAt W k p.2 p.1.L):=fun W hW=>⟨w0,(HR0.out.at_ hp).choose_spec.choose_spec.2.2.1,HKB.out,hW⟩
     have HUK:=jq hio.2
     obtain⟨PL,cL,hlab,_⟩:=id hio.1
     clear hp hio
     obtain⟨⟨op,iA,iB,iK,iL⟩,lab⟩:=p
     simp only at hlab
     obtain⟨nL,hnL⟩:∃nL,iL.length=nL:=⟨_,rfl⟩
     rw[hnL] at hlab
     subst hlab
     clear hnL
     obtain⟨e0,e1,e2,e3,e4⟩:=hic
     simp only at e0 e1 e2 e3 e4 HLP HLB HUK
     have i1:(0:Int)<=(i:Int):=by omega
     have i2:(i:Int)<(n:Int):=by omega
     have hw1:IntKind.i64.wrap ((i:Int)+1)=(i:Int)+1:=IntWalk.i64_in _ (by have:=HNB.out;omega)
     have HNW:=jq (zaB wr (.cells #[.int .i64 op,.int .i64 iA,.int .i64 iB,.int .u64 iK,.slice PL nL cL] 33))
     have HY:=jq (zaC wr (.cells #[.int .i64 op,.int .i64 iA,.int .i64 iB,.int .u64 iK,.slice PL nL cL] 33))
     have HCX:=jq (HCX.out.keep HNW.out)
     have HBW:=jq (HBW.out.trans (HNW.out.mono HBW.out.size))
     have HJT:=jq (HT.out.keep HJT.out HNW.out)
     obtain⟨P,n1,c1,Q,m1,d1,hck,hst⟩:=HCX.out.ok
     obtain⟨c7,c8,c9,f7,f8,f9⟩:=cells10 hck
     have bk:=jl hck
     have HCL:=jq (HT.out.call HJT.out (by have:=HTL.out;have:=HNB.out;omega) hst HBI.out HBW.out)
     clear hck hst HCB
     go_wp2_with fail
     clear e0 e1 e2 e3 e4 c7 c8 c9 f7 f8 f9 bk
     generalize wr.alloc (.cells #[.int .i64 op,.int .i64 iA,.int .i64 iB,.int .u64 iK,.slice PL nL cL] 33)=u1 at *
     generalize wr.heap.size=r at *
     refine HCL.out.mono ?_
     rintro e w4 ⟨rfl,hj,htw⟩
     have HCX:=jq (htw.cx HCX.out HE0.out HKB.out HBW.out)
     have HY:=jq (htw.block HY.out (.inr rfl))
     have HBW:=jq (htw.low HBW.out (Nat.le_refl _))
     have HJT:=jq hj
     clear hj htw HCL
     obtain⟨b0,b1,b2,b3,b4⟩:=cells5i HY.out
     go_wp2_with fail
     refine(take_ck (i:=⟨op,iA,iB,iK,iL⟩) HCX.out HBI.out HFB.out (HLB.out _ HBW.out) HUK.out (HK0.out.keep HBW.out) (HA0.out.keep HBW.out)).mono ?_
     rintro e w5 ⟨rfl,hc,hbt⟩
     have HJT:=jq (HT.out.cx HJT.out HKB.out HCX.out hbt)
     have HBW:=jq (HBW.out.trans (hbt.below HKB.out HCX.out.lt))
     clear b0 b1 b2 b3 b4 HY hbt
     have hin:=go_cons HLP.out
     have HB2:=jq (Bd.instr (E:=E) (i:=⟨op,iA,iB,iK,iL⟩) HFB.out HBD.out)
     rw[hin] at HTR
     clear hin
     unfold pathGo at HTR
     cases hx:instrR E ⟨op,iA,iB,iK,iL⟩ s with
     | er ee=>
      rw[hx] at hc HTR
      obtain⟨P,n1,c1,Q,m1,d1,hck,hz⟩:=hc.er
      obtain⟨c7,c8,c9,f7,f8,f9⟩:=cells10 hck
      clear hx hck
      go_wp2_with fail
      exact bodyPost_ret (v:=.int .i64 ee) (by simp[results,Tryz.results46,go_sem]) rfl ⟨by rw[HTR.out],by rw[HTR.out];exact HJT.out,HBW.out⟩
     | ok s2=>
      rw[hx] at hc HTR HB2
      have HCX:=jq hc
      obtain⟨P,n1,c1,Q,m1,d1,hck,_⟩:=hc.ok
      obtain⟨c7,c8,c9,f7,f8,f9⟩:=cells10 hck
      clear hx hck hc
      go_wp2_with fail
      go_roundw
      case rel=>exact ⟨i+1,s2,t ++ [s],by go_num,hlt,by rw[List.length_append,HTL.out];rfl,HCX.out,HB2.out.mono (by omega),HJT.out,HBW.out,by rw[HTR.out];simp⟩
      case measure=>simp[intOf];omega
    ·obtain rfl:i=n:=by omega
     obtain⟨P,n1,c1,Q,m1,d1,hck,hst⟩:=HCB.out
     obtain⟨c7,c8,c9,f7,f8,f9⟩:=cells10 hck
     have bk:=jl hck
     have HCL:=jq (HT.out.call HJT.out (by have:=HTL.out;have:=HNB.out;omega) hst HBI.out HBW.out)
     clear hck hst
     go_wp2_with fail
     refine HCL.out.mono ?_
     rintro e w4 ⟨rfl,hj,htw⟩
     have HB4:=jq (htw.low HBW.out (Nat.le_refl _))
     have HJ4:=jq hj
     have HRE:Hid (R=(t ++ [s],0)):=jq (by rw[HTR.out,List.drop_of_length_le (by rw[List.length_map,HLN.out];exact Nat.le_refl _)];rfl)
     clear hj htw
     go_wp2_with fail
     exact bodyPost_ret (v:=.int .i64 0) (by simp[results,Tryz.results46,go_sem]) rfl ⟨by rw[HRE.out],by rw[HRE.out];exact HJ4.out,HB4.out⟩
abbrev StV:=Stk×(Value×Value)
def elS:El StV where
 e:=39
 s:=2
 z:=.agg #[.slice none 0 0,.slice none 0 0]
 bytes:=48
 enc:=fun p=>[p.2.1,p.2.2]
 ok:=fun w p=>StIs elP w (.agg #[p.2.1,p.2.2]) p.1
 pos:=by decide
 len:=fun _=>rfl
 info:=by kernel_rfl
 zs:=rfl
 stay:=fun h hb=>h.keep hb
 one:=fun h u hu=>by
  obtain⟨a,c,l,e,h1,h2,_⟩:=h
  simp only[Value.agg.injEq] at e
  have e:=congrArg Array.toList e
  simp only[List.cons.injEq,and_true] at e
  obtain⟨e1,e2⟩:=e
  simp only[List.mem_cons,List.not_mem_nil,or_false] at hu
  rcases hu with rfl | rfl
  ·rw[e1];exact row_oneCell h1
  ·rw[e2];exact row_oneCell h2
def NoP (u:Value):Prop:=(∀x,u≠.int .u8 x)/\∀b,u≠.bool b
theorem nop_slice (A:Option Addr)(n c:Nat):NoP (.slice A n c):=⟨fun x=>by simp,fun b=>by simp⟩
theorem OwnAll.nobb {w:World}{v:Value}{g:Nat}{cur:Array Value}{e:TypeId}(h:OwnAll NoP w v)(hg:v.ownBlock=some g)(hc:w.heap[g]? = some (.cells cur e (0,0))):NoBB w g:=
 nobb_of hc (h g cur e _ hg hc)
theorem OwnAll.same {p:Value->Prop}{w w':World}{v:Value}(h:OwnAll p w v)(hk:∀g,v.ownBlock=some g->w'.heap[g]? = w.heap[g]?):OwnAll p w' v:=fun g cur e fr hg hc=>h g cur e fr hg (by rw[<- hk g hg];exact hc)
def PathJ (z:Nat)(t:List Stk)(w:World):Prop:=∃P c rows,w.heap[z]? = some (.cells #[.slice P t.length c] 60 (0,0))/\Own elS w (z+1) (.slice P t.length c) rows/\rows.map (·.1)=t/\OwnAll NoP w (.slice P t.length c)/\∀p∈rows,elS.ok w p
theorem PathJ.keep {z:Nat}{t:List Stk}{w w':World}(h:PathJ z t w)(hb:Below w.heap.size w w'):PathJ z t w':=by
 obtain⟨P,c,rows,h1,h2,h3,h4,h5⟩:=h
 exact⟨P,c,rows,blk h1 hb,own_keep h2 hb,h3,h4.same (fun g hg=>hb.block g (World.ownsRow.lt h2 g hg).2),fun p hp=>(h5 p hp).keep hb⟩
theorem PathJ.but {z:Nat}{t:List Stk}{w w':World}{k:Nat}{V:EV}{E:EnvP}{P:Option Addr}{n c:Nat}{Q:Option Addr}{m d:Nat}{e:Int}(h:PathJ z t w)(hk:w.heap[k]? = some (ckObj V E (.slice P n c) (.slice Q m d) e))(hb:But k w w'):PathJ z t w':=by
 obtain⟨P,c,rows,h1,h2,h3,h4,h5⟩:=h
 have hz:z≠k:=fun e=>by
  subst e
  rw[h1] at hk
  injection hk with hk
  injection hk with _ hk
  exact absurd hk (by decide)
 have hg:∀g,(Value.slice P t.length c).ownBlock=some g->w'.heap[g]? = w.heap[g]?:=fun g hg=>by
  refine hb.block g (World.ownsRow.lt h2 g hg).2 (fun e=>?_)
  subst e
  obtain⟨cur,hc⟩:=own_type h2 hg
  rw[hc] at hk
  injection hk with hk
  injection hk with _ hk
  exact absurd hk (by decide)
 exact⟨P,c,rows,(hb.block z (jl h1) hz).trans h1,own_stay h2 hg,h3,h4.same hg,fun p hp=>StIs.apart (e:=72) (hi:=infoP) (h5 p hp) (nobb_ck hk) hb⟩
theorem grown_tw {B:Nat}{w w':World}{v:Value}{rows:List StV}{b:Nat}(h:w.grownBy w' v.ownBlock)(ho:Own elS w b v rows)(hb:B<=b)(hp:OwnAll NoP w v):Tw B w w':=by
 cases hv:v.ownBlock with
 | none=>exact (Tw.refl w).keep ⟨h.os,h.tape,h.output,h.size,fun k hk=>h.block k hk (by rw[hv];simp)⟩
 | some g=>
  obtain⟨cur,hc⟩:=own_type ho hv
  exact(Tw.refl w).but (hp.nobb hv hc) (Nat.le_trans hb (World.ownsRow.lt ho g hv).1) hc (by decide) (by decide) ⟨h.os,h.tape,h.output,h.size,fun k hk hne=>h.block k hk (by rw[hv];simpa using hne)⟩
theorem Tw.trans {B:Nat}{a b c:World}(h:Tw B a b)(k:Tw B b c):Tw B a c:=by
 induction k with
 | refl=>exact h
 | keep _ h2 ih=>exact ih.keep h2
 | but _ h1 h2 h3 h4 h5 h6 ih=>exact ih.but h1 h2 h3 h4 h5 h6
theorem path1_any {z B:Nat}{t:List Stk}{w:World}{v:Value}{s:Stk}(h:PathJ z t w)(hB:B<=z)(ht:t.length<=1000)(hs:StIs elP w v s):
  Calls Tryz.prog 47 (#[v] ++ #[.pointer (some ⟨z,0,none⟩)]) w fun e w'=>e= .returned (.tuple #[])/\PathJ z (t ++ [s]) w'/\Tw B w w':=by
 obtain⟨P,c,rows,h1,h2,h3,h4,h5⟩:=h
 obtain⟨va,vc,lc,rfl,ha,hc,hm⟩:=id hs
 obtain⟨Pa,ca,rfl,_⟩:=ha.form
 obtain⟨Pc,cc,rfl,_⟩:=hc.form
 generalize s.vals.length=na at *
 generalize lc.length=nc at *
 have hrl:rows.length=t.length:=by rw[<- h3,List.length_map]
 obtain⟨n,hn⟩:∃n,t.length=n:=⟨_,rfl⟩
 rw[hn] at h1 h2 h4 hrl ht
 have HTL:=jq hn
 clear hn
 have HZ:=jq h1
 have HO:=jq h2
 have HRM:=jq h3
 have HAL:=jq h4
 have HOK:=jq h5
 have HST:=jq hs
 have HRL:=jq hrl
 have HBN:=jq (below2 w (.cells #[.slice Pa na ca,.slice Pc nc cc] 39) (.cells #[.slice Pa na ca,.slice Pc nc cc] 39))
 have zl:=jl h1
 have z0:=(zaA h1 0).1
 simp only[List.getElem?_toArray,List.getElem?_cons_zero] at z0
 clear h1 h2 h3 h4 h5 hs ha hc hm hrl
 show Calls _ _ #[.agg #[.slice Pa na ca,.slice Pc nc cc],.pointer (some ⟨z,0,none⟩)] _ _
 go_enter Tryz.func47,Tryz.ntmps47
 go_wp2_with (at_builtin;refine stop_ ?_)
 refine jq ?_
 refine wp_oneP elS NoP (by intro u hu;rcases List.mem_cons.1 hu with rfl | hu;exact nop_slice _ _ _;rcases List.mem_cons.1 hu with rfl | hu;exact nop_slice _ _ _;cases hu) 60 Tryz.underlying60 ((w.alloc (.cells #[.slice Pa na ca,.slice Pc nc cc] 39)).alloc (.cells #[.slice Pa na ca,.slice Pc nc cc] 39)) rfl (.tmp 3) (.tmp 5) rfl (z+1) _ rows (s,(.slice Pa na ca,.slice Pc nc cc)) (HST.out.keep HBN.out) (by intro u hu;simp only[elS,List.mem_cons,List.not_mem_nil,or_false] at hu;rcases hu with rfl | rfl <;> exact nop_slice _ _ _) (by rfl) (own_keep HO.out HBN.out) (HAL.out.same fun g hg=>HBN.out.block g (World.ownsRow.lt HO.out g hg).2) (w.heap.size+1) (by rfl) (by
  have:=newG' elS (w.alloc (.cells #[.slice Pa na ca,.slice Pc nc cc] 39)) (s,(.slice Pa na ca,.slice Pc nc cc)) #[.slice Pa na ca,.slice Pc nc cc] _ rfl rfl
  rw[zaD] at this
  exact this) (by have:=HRL.out;omega) (by decide) (Nat.le_trans zl HBN.out.size) ?_
 intro v7 w7 ho7 hal7 hgr7
 have HTW:Hid (Tw B w w7):=jq (((Tw.refl w).keep HBN.out).trans (grown_tw hgr7 (own_keep HO.out HBN.out) (by omega) (HAL.out.same fun g hg=>HBN.out.block g (World.ownsRow.lt HO.out g hg).2)))
 obtain⟨S7,c7,hv7⟩:=ho7.form
 have hil:(rows ++ [((s,(.slice Pa na ca,.slice Pc nc cc)):StV)]).length=n+1:=by rw[List.length_append,HRL.out];rfl
 rw[hil] at hv7
 subst hv7
 have HO7:=jq ho7
 have HAL7:=jq hal7
 have hz7:w7.heap[z]? = some (.cells #[.slice P n c] 60 (0,0)):=(hgr7.block z (Nat.lt_of_lt_of_le zl HBN.out.size) (fun e=>by have:=(World.ownsRow.lt HO.out z e.symm).1;omega)).trans (blk HZ.out HBN.out)
 have HZ7:=jq hz7
 clear hgr7 ho7 hal7 hil z0
 have zf:=(zaA hz7 0).2
 have z0:=(zaA hz7 0).1
 have zl7:=jl hz7
 simp only[List.getElem?_toArray,List.getElem?_cons_zero] at z0
 clear hz7
 simp only[Act.put,List.setIfInBounds_toArray,List.set_cons_succ,List.set_cons_zero]
 go_wp2_with fail
 have hbz:But z w7 (w7.setCell ⟨z,0,none⟩ (.slice S7 (n+1) c7)):=(But.refl z w7).setCell 0 _
 have hnz:NoBB w7 z:=nobb_of HZ7.out (by intro u hu;simp only[List.mem_cons,List.not_mem_nil,or_false] at hu;subst hu;exact nop_slice _ _ _)
 have hgz:∀g,(Value.slice S7 (n+1) c7).ownBlock=some g->(w7.setCell ⟨z,0,none⟩ (.slice S7 (n+1) c7)).heap[g]? = w7.heap[g]?:=fun g hg=>hbz.block g (World.ownsRow.lt HO7.out g hg).2 (by have:=(World.ownsRow.lt HO7.out g hg).1;omega)
 have hst:∀p:StV,elS.ok w p->elS.ok (w7.setCell ⟨z,0,none⟩ (.slice S7 (n+1) c7)) p:=fun p hp=>StIs.apart (e:=72) (hi:=infoP) (HTW.out.stk hp) hnz hbz
 refine bodyPost_end (v:=.tuple #[]) (by simp[results,Tryz.results47,go_sem]) rfl ⟨rfl,⟨S7,c7,rows ++ [(s,(.slice Pa na ca,.slice Pc nc cc))],?_,?_,by rw[List.map_append,HRM.out];rfl,?_,?_⟩,HTW.out.but hnz hB HZ7.out (by decide) (by decide) hbz⟩
 ·rw[List.length_append,HTL.out,zaE HZ7.out]
  rfl
 ·rw[List.length_append,HTL.out]
  exact own_stay HO7.out hgz
 ·rw[List.length_append,HTL.out]
  exact HAL7.out.same hgz
 ·intro p hp
  rcases List.mem_append.1 hp with hp | hp
  ·exact hst p (HOK.out p hp)
  ·rw[List.mem_singleton.1 hp]
   exact hst (s,(.slice Pa na ca,.slice Pc nc cc)) HST.out
theorem path_tell {w0:World}{V:EV}{E:EnvP}{z:Nat}(hz:w0.heap.size<=z):Tell w0 V E 47 (.pointer (some ⟨z,0,none⟩)) (PathJ z) where
 ok:=⟨_,Tryz.func47,by kernel_rfl,by kernel_rfl⟩
 keep:=fun h hb=>h.keep hb
 but:=fun h _ hk hb=>h.but hk hb
 call:=fun h ht hs _ _=>path1_any h hz ht hs
end Go.Proofs.YtlappkflnlbfcaaGreatDoor.Chk
