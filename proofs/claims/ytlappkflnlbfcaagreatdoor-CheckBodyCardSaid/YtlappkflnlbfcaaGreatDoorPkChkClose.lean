import Derived.Test.YtlappkflnlbfcaaGreatDoorPkStkRLabel
import Derived.Test.YtlappkflnlbfcaaGreatDoorPkInsStab
import Derived.Test.YtlappkflnlbfcaaGreatDoorPkInsPSame
import Derived.Test.YtlappkflnlbfcaaGreatDoorPkStackDeadWalk
namespace Go.Proofs.YtlappkflnlbfcaaGreatDoor.Chk
open Go renaming bodyPost_ret → jr
open Lib renaming hid → jq
open Go.RowKit Row9 Stk
set_option maxRecDepth 100000
set_option maxHeartbeats 2000000
set_option linter.unusedVariables false
theorem jl {w:World}{k:Nat}{o:Obj}(h:w.heap[k]? = some o):k<w.heap.size:=lt_of_heap h
inductive Rs where
 | ok (s:Stk)
 | er (e:Int)
def Rs.bind (x:Rs)(f:Stk->Rs):Rs:=match x with
 | .ok s=>f s
 | .er e=>.er e
def Rs.code:Rs->Int
 | .ok _=>0
 | .er e=>e
def ofP (r:Stk×Int):Rs:=if r.2=0 then .ok r.1 else .er r.2
def pushR (l:List Int)(x:Rs):Rs:=x.bind fun s=>ofP (pushS s l)
def wantR (l:List Int)(x:Rs):Rs:=x.bind fun s=>ofP (wantS s l)
def killR (x:Rs):Rs:=x.bind fun s=>ofP (killS s)
def openR (op:Int)(l:List Int)(x:Rs):Rs:=x.bind fun s=>ofP (openS s op l)
def needR (b:Bool)(e:Int)(x:Rs):Rs:=x.bind fun s=>if b=true then .ok s else .er e
def popR (x:Rs):Rs:=x.bind fun s=>ofP ((popS s).1,(popS s).2.2)
def popB (x:Rs):Int:=match x with
 | .ok s=>(popS s).2.1
 | .er _=>0
def closeR (x:Rs):Rs:=x.bind fun s=>ofP ((zaM s).1,(zaM s).2.2)
def closedC (x:Rs):Ctl:=match x with
 | .ok s=>(zaM s).2.1
 | .er _=>zeroC
def labelR (n:Int)(x:Rs):Rs:=x.bind fun s=>if (labelS s n).2=0 then .ok s else .er (labelS s n).2
def labelL (n:Int)(x:Rs):List Int:=match x with
 | .ok s=>(labelS s n).1
 | .er _=>[]
abbrev oJ(op A B K:Int)(v:Value):Obj:= .cells #[.int .i64 op,.int .i64 A,.int .i64 B,.int .u64 K,v] 33
structure EnvP where
 types:List (List Int×List Int)
 funcs:List Int
 tables:Int
 mems:Int
 globs:List (Int×Bool)
 locals:List Int
 results:List Int
def atL {α:Type}(l:List α)(n:Int):Option α:=if n<0 then none else l[n.toNat]?
def typeE (E:EnvP)(f:Int):Option (List Int×List Int):=(atL E.funcs f).bind fun n=>atL E.types n
def lastOp (s:Stk):Int:=match s.cs.getLast? with
 | some c=>c.op
 | none=>0
def turnR (s:Stk):Rs:=
 let x1:=needR (decide (0<s.cs.length) && (lastOp s == 4)) 5 (.ok s)
 openR 5 (closedC x1).fin (closeR x1)
def endR (s:Stk):Rs:=
 let x1:=needR (decide (2<=s.cs.length)) 5 (.ok s)
 let x2:=closeR x1
 let c:=closedC x1
 pushR c.fin (needR ((c.op != 4) || (c.fin.length == 0)) 5 x2)
def chooseR (s:Stk):Rs:=
 let x1:=wantR [127] (.ok s)
 let a:=popB x1
 let x2:=popR x1
 let b:=popB x2
 let x3:=popR x2
 pushR [if a=0 then b else a] (needR ((a == b) || (a == 0) || (b == 0)) 5 x3)
def callR (f:List Int×List Int)(x:Rs):Rs:=pushR f.2 (wantR f.1 x)
def localR (op v:Int)(x:Rs):Rs:=
 let x1:=if op=32 then x else wantR [v] x
 if op=33 then x1 else pushR [v] x1
def blockR (op A:Int)(s:Stk):Rs:=openR op (if A=0 then [] else [A]) (if op=4 then wantR [127] (.ok s) else .ok s)
def namedR {α:Type}(l:List α)(n:Int)(x:Rs):Rs:=needR (atL l n).isSome 6 x
def shT (op:Int):List Int×Int:=
 if op=69 then ([127],127) else if 70<=op/\op<=79 then ([127,127],127) else if op=80 then ([126],127) else if 81<=op/\op<=90 then ([126,126],127)
 else if 103<=op/\op<=105 then ([127],127) else if 106<=op/\op<=120 then ([127,127],127) else if 121<=op/\op<=123 then ([126],126) else if 124<=op/\op<=138 then ([126,126],126)
 else if op=167 then ([126],127) else if op=172\/op=173 then ([127],126) else ([],0)
def plainR (E:EnvP)(op:Int)(s:Stk):Rs:=
 if op=0 then killR (.ok s) else if op=1 then pushR [] (.ok s) else if op=5 then turnR s else if op=11 then endR s
 else if op=15 then killR (wantR E.results (.ok s)) else if op=26 then popR (.ok s) else if op=27 then chooseR s
 else pushR [(shT op).2] (wantR (shT op).1 (.ok s))
def indexR (E:EnvP)(op A:Int)(s:Stk):Rs:=
 if op=12 then killR (wantR (labelL A (.ok s)) (labelR A (.ok s)))
 else if op=13 then pushR (labelL A (.ok s)) (wantR (labelL A (.ok s)) (wantR [127] (labelR A (.ok s))))
 else if op=16 then callR ((typeE E A).getD ([],[])) (needR (typeE E A).isSome 6 (.ok s))
 else if op=32\/op=33\/op=34 then localR op ((atL E.locals A).getD 0) (namedR E.locals A (.ok s))
 else if op=35 then pushR [((atL E.globs A).getD (0,false)).1] (namedR E.globs A (.ok s))
 else if op=36 then wantR [((atL E.globs A).getD (0,false)).1] (needR ((atL E.globs A).getD (0,false)).2 5 (namedR E.globs A (.ok s)))
 else .ok s
def tabR (l:List Int):List Int->Rs->Rs
 | [],x=>x
 | n :: r,x=>tabR l r (needR (decide (labelL n x=l)) 5 (labelR n x))
def tableR (A:Int)(L:List Int)(s:Stk):Rs:=
 killR (wantR (labelL A (.ok s)) (wantR [127] (tabR (labelL A (.ok s)) L (labelR A (.ok s)))))
def callIR (E:EnvP)(A:Int)(s:Stk):Rs:=
 callR ((atL E.types A).getD ([],[])) (wantR [127] (namedR E.types A (needR (decide (1<=E.tables)) 6 (.ok s))))
def fitA (A n:Int):Bool:=(decide (A<=0)) || (decide (A<=1) && decide (2<=n)) || (decide (A<=2) && decide (4<=n)) || (decide (A<=3) && decide (8<=n))
def accessR (E:EnvP)(op A:Int)(s:Stk):Rs:=
 let x:=needR (fitA A (Ins.ax op).2.1) 5 (needR (decide (1<=E.mems)) 6 (.ok s))
 if (Ins.ax op).2.2.2=true then wantR [127,(Ins.ax op).1] x else pushR [(Ins.ax op).1] (wantR [127] x)
def memR (E:EnvP)(op:Int)(s:Stk):Rs:=
 let x:=needR (decide (1<=E.mems)) 6 (.ok s)
 pushR [127] (if op=63 then x else wantR [127] x)
def takeR (E:EnvP)(i:Ins.Ins)(s:Stk):Rs:=
 if Ins.kd i.op=1 then plainR E i.op s else if Ins.kd i.op=2 then blockR i.op i.A s else if Ins.kd i.op=3 then indexR E i.op i.A s
 else if Ins.kd i.op=4 then tableR i.A i.L s else if Ins.kd i.op=5 then callIR E i.A s else if Ins.kd i.op=6 then accessR E i.op i.A s
 else if Ins.kd i.op=7 then memR E i.op s else if Ins.kd i.op=8 then pushR [127] (.ok s) else pushR [126] (.ok s)
def stepR (E:EnvP)(i:Ins.Ins)(s:Stk):Rs:=if sane s=false then .er 1 else if Ins.saneI i=false then .er 1 else takeR E i s
def elI:El Int where
 e:=3
 s:=1
 z:=.int .i64 0
 bytes:=8
 enc:=fun x=>[.int .i64 x]
 ok:=fun _ x=>w64 x
 pos:=by decide
 len:=fun _=>rfl
 info:=by kernel_rfl
 zs:=rfl
 stay:=fun h _=>h
 one:=fun h u hu=>by
  simp only[List.mem_cons,List.not_mem_nil,or_false] at hu
  rcases hu with rfl
  rfl
def elGl (e:TypeId)(hi:(Tryz.prog.info? e).map (fun i=>(i.zero,i.size,i.bytes))=some (some (.agg #[.int .u8 0,.bool false]),2,2)):El (Int×Bool) where
 e:=e
 s:=2
 z:=.agg #[.int .u8 0,.bool false]
 bytes:=2
 enc:=fun p=>[.int .u8 p.1,.bool p.2]
 ok:=fun _ p=>0<=p.1/\p.1<256
 pos:=by decide
 len:=fun _=>rfl
 info:=hi
 zs:=rfl
 stay:=fun h _=>h
 one:=fun h u hu=>by
  simp only[List.mem_cons,List.not_mem_nil,or_false] at hu
  rcases hu with rfl | rfl <;> rfl
theorem infoGP:(Tryz.prog.info? 82).map (fun i=>(i.zero,i.size,i.bytes))=some (some (.agg #[.int .u8 0,.bool false]),2,2):=by kernel_rfl
theorem infoGD:(Tryz.prog.info? 81).map (fun i=>(i.zero,i.size,i.bytes))=some (some (.agg #[.int .u8 0,.bool false]),2,2):=by kernel_rfl
def elGP:El (Int×Bool):=elGl 82 infoGP
def elGD:El (Int×Bool):=elGl 81 infoGD
abbrev FnV:=(List Int×List Int)×(Value×Value)
def FnOk (w:World)(p:FnV):Prop:=Row elB w p.2.1 p.1.1/\Row elB w p.2.2 p.1.2
def elF:El FnV where
 e:=51
 s:=2
 z:=.agg #[.slice none 0 0,.slice none 0 0]
 bytes:=48
 enc:=fun p=>[p.2.1,p.2.2]
 ok:=FnOk
 pos:=by decide
 len:=fun _=>rfl
 info:=by kernel_rfl
 zs:=rfl
 stay:=fun h hb=>⟨h.1.keep hb,h.2.keep hb⟩
 one:=fun h u hu=>by
  simp only[List.mem_cons,List.not_mem_nil,or_false] at hu
  rcases hu with rfl | rfl
  ·exact row_oneCell h.1
  ·exact row_oneCell h.2
structure EV where
 Pt:Option Addr
 nt:Nat
 ct:Nat
 Pf:Option Addr
 nf:Nat
 cf:Nat
 Pg:Option Addr
 ng:Nat
 cg:Nat
 Pl:Option Addr
 nl:Nat
 cl:Nat
 Pr:Option Addr
 nr:Nat
 cr:Nat
structure EnvOk (T:El (Int×Bool)) (w:World) (V:EV) (E:EnvP):Prop where
 t:∃ts,Row elF w (.slice V.Pt V.nt V.ct) ts/\ts.map (·.1)=E.types
 f:Row elI w (.slice V.Pf V.nf V.cf) E.funcs
 g:Row T w (.slice V.Pg V.ng V.cg) E.globs
 l:Row elB w (.slice V.Pl V.nl V.cl) E.locals
 r:Row elB w (.slice V.Pr V.nr V.cr) E.results
 it:w64 E.tables
 im:w64 E.mems
theorem EnvOk.keep {T:El (Int×Bool)}{w w':World}{V:EV}{E:EnvP}(h:EnvOk T w V E)(hb:Below w.heap.size w w'):EnvOk T w' V E:=by
 obtain⟨⟨ts,h1,h2⟩,h3,h4,h5,h6,h7,h8⟩:=h
 exact⟨⟨ts,h1.keep hb,h2⟩,h3.keep hb,h4.keep hb,h5.keep hb,h6.keep hb,h7,h8⟩
def evV (V:EV)(E:EnvP):Value:=.agg #[.slice V.Pt V.nt V.ct,.slice V.Pf V.nf V.cf,.int .i64 E.tables,.int .i64 E.mems,.slice V.Pg V.ng V.cg,.slice V.Pl V.nl V.cl,.slice V.Pr V.nr V.cr]
def ckObj (V:EV)(E:EnvP)(vv cv:Value)(e:Int):Obj:=.cells #[.slice V.Pt V.nt V.ct,.slice V.Pf V.nf V.cf,.int .i64 E.tables,.int .i64 E.mems,.slice V.Pg V.ng V.cg,.slice V.Pl V.nl V.cl,.slice V.Pr V.nr V.cr,vv,cv,.int .i64 e] 78 (0,0)
def NoBB (w:World)(z:Nat):Prop:=∀i,(∀x,w.cell? ⟨z,i,none⟩≠some (.int .u8 x))/\∀b,w.cell? ⟨z,i,none⟩≠some (.bool b)
theorem nobb_of {w:World}{z:Nat}{cs:Array Value}{t:TypeId}(h:w.heap[z]? = some (.cells cs t (0,0)))(hc:∀u∈cs.toList,(∀x,u≠.int .u8 x)/\∀b,u≠.bool b):NoBB w z:=by
 intro i
 rw[(zaA h i).1]
 cases hi:cs[i]? with
 | none=>exact ⟨fun _=>by simp,fun _=>by simp⟩
 | some u=>
  have hu:=hc u (by rw[Array.mem_toList_iff];exact Array.mem_of_getElem? hi)
  exact⟨fun x e=>hu.1 x (Option.some.inj e),fun b e=>hu.2 b (Option.some.inj e)⟩
theorem nobb_ck {w:World}{k:Nat}{V:EV}{E:EnvP}{P Q:Option Addr}{n c m d:Nat}{e:Int}(h:w.heap[k]? = some (ckObj V E (.slice P n c) (.slice Q m d) e)):NoBB w k:=by
 refine nobb_of h ?_
 intro u hu
 simp only[List.mem_cons,List.not_mem_nil,or_false] at hu
 rcases hu with rfl | rfl | rfl | rfl | rfl | rfl | rfl | rfl | rfl | rfl <;> exact ⟨fun x=>by simp,fun b=>by simp⟩
theorem row_apart {α:Type}{T:El α}{w w':World}{z:Nat}{v:Value}{l:List α}(hT:∀a,∃ (i:Nat) (u:Value),(T.enc a)[i]? = some u/\((∃x,u= .int .u8 x)\/∃b,u= .bool b))(hok:∀p∈l,T.ok w p->T.ok w' p)(h:Row T w v l)(hz:NoBB w z)(hc:But z w w'):Row T w' v l:=by
 obtain⟨⟨B,d,h1,h2,h3,h4⟩,h5⟩:=h
 refine⟨⟨B,d,h1,h2,h3,fun h0=>?_⟩,fun p hp=>hok p hp (h5 p hp)⟩
 obtain⟨g,off,e,hg,hB⟩:=h4 h0
 have hgz:g≠z:=by
  intro e
  subst e
  obtain⟨p,hp⟩:∃p,l[0]? = some p:=by
   cases l with
   | nil=>exact absurd rfl h0
   | cons p l=>exact ⟨p,rfl⟩
  obtain⟨i,u,hu,hx⟩:=hT p
  have h6:=hB 0 p hp i u hu
  rcases hx with ⟨x,rfl⟩ | ⟨b,rfl⟩
  ·exact (hz _).1 _ h6
  ·exact (hz _).2 _ h6
 refine⟨g,off,e,Nat.lt_of_lt_of_le hg hc.size,fun j p hj i' u' hu=>?_⟩
 have h6:=hB j p hj i' u' hu
 have h7:=hc.block g hg hgz
 simp only[World.cell?] at h6 ⊢
 rw[h7]
 exact h6
theorem zaG {w w':World}{z:Nat}{v:Value}{l:List Int}(h:Row elB w v l)(hz:NoBB w z)(hc:But z w w'):Row elB w' v l:=
 row_apart (T:=elB) (w:=w) (fun a=>⟨0,_,rfl,.inl ⟨a,rfl⟩⟩) (fun _ _ h=>h) h hz hc
theorem StIs.apart {e:TypeId}{hi}{w w':World}{z:Nat}{v:Value}{s:Stk}(h:StIs (elCt e hi) w v s)(hz:NoBB w z)(hc:But z w w'):StIs (elCt e hi) w' v s:=by
 obtain⟨a,b,l,h1,h2,h3,h4⟩:=h
 exact⟨a,b,l,h1,zaG h2 hz hc,row_apart (T:=elCt e hi) (fun a=>⟨3,_,rfl,.inr ⟨a.1.dead,rfl⟩⟩) (fun p _ hp=>⟨zaG hp.1 hz hc,hp.2⟩) h3 hz hc,h4⟩
structure Cx (w:World) (k:Nat) (V:EV) (E:EnvP) (x:Rs):Prop where
 ck:∃P n c Q m d,w.heap[k]? = some (ckObj V E (.slice P n c) (.slice Q m d) x.code)/\∀s,x= .ok s->StIs elP w (.agg #[.slice P n c,.slice Q m d]) s
 ne:∀e,x= .er e->e≠0
 ev:∃w0,EnvOk elGP w0 V E/\w0.heap.size<=k/\Below w0.heap.size w0 w
theorem Cx.lt {w:World}{k:Nat}{V:EV}{E:EnvP}{x:Rs}(h:Cx w k V E x):k<w.heap.size:=by
 obtain⟨⟨P,n,c,Q,m,d,h1,_⟩,_⟩:=h
 exact jl h1
theorem Cx.keep {w w':World}{k:Nat}{V:EV}{E:EnvP}{x:Rs}(h:Cx w k V E x)(hb:Below w.heap.size w w'):Cx w' k V E x:=by
 obtain⟨⟨P,n,c,Q,m,d,h1,h2⟩,h3,w0,h4,h5,h6⟩:=h
 exact⟨⟨P,n,c,Q,m,d,blk h1 hb,fun s hs=>(h2 s hs).keep hb⟩,h3,w0,h4,h5,h6.trans (hb.mono h6.size)⟩
theorem Cx.nobb {w:World}{k:Nat}{V:EV}{E:EnvP}{x:Rs}(h:Cx w k V E x):NoBB w k:=by
 obtain⟨⟨P,n,c,Q,m,d,h1,_⟩,_⟩:=h
 exact nobb_ck h1
theorem Cx.env {w:World}{k:Nat}{V:EV}{E:EnvP}{x:Rs}(h:Cx w k V E x):EnvOk elGP w V E:=by
 obtain⟨_,_,w0,h4,_,h6⟩:=h
 exact h4.keep h6
theorem cells10 {w:World}{k:Nat}{V:EV}{E:EnvP}{vv cv:Value}{e:Int}(h:w.heap[k]? = some (ckObj V E vv cv e)):w.cell? ⟨k,7,none⟩=some vv/\w.cell? ⟨k,8,none⟩=some cv/\w.cell? ⟨k,9,none⟩=some (.int .i64 e)/\w.frozen? ⟨k,7,none⟩=false/\w.frozen? ⟨k,8,none⟩=false/\w.frozen? ⟨k,9,none⟩=false:=
 ⟨(zaA h 7).1,(zaA h 8).1,(zaA h 9).1,(zaA h 7).2,(zaA h 8).2,(zaA h 9).2⟩
theorem set10 {w:World}{k:Nat}{V:EV}{E:EnvP}{a b:Value}{e:Int}(h:w.heap[k]? = some (ckObj V E a b e))(a' b':Value)(e':Int):(((w.setCell ⟨k,7,none⟩ a').setCell ⟨k,8,none⟩ b').setCell ⟨k,9,none⟩ (.int .i64 e')).heap[k]? = some (ckObj V E a' b' e'):=by
 unfold ckObj at h
 rw[zaE (zaE (zaE h _) _)]
 rfl
theorem set10e {w:World}{k:Nat}{V:EV}{E:EnvP}{a b:Value}{e:Int}(h:w.heap[k]? = some (ckObj V E a b e))(e':Int):(w.setCell ⟨k,9,none⟩ (.int .i64 e')).heap[k]? = some (ckObj V E a b e'):=by
 unfold ckObj at h
 rw[zaE h]
 rfl
theorem but_set10 (w:World)(k:Nat)(a b c:Value):But k w (((w.setCell ⟨k,7,none⟩ a).setCell ⟨k,8,none⟩ b).setCell ⟨k,9,none⟩ c):=(((But.refl k w).setCell 7 a).setCell 8 b).setCell 9 c
theorem Cx.put {w w':World}{k:Nat}{V:EV}{E:EnvP}{x y:Rs}(h:Cx w k V E x)(hb:But k w w'){P n c Q m d}(h1:w'.heap[k]? = some (ckObj V E (.slice P n c) (.slice Q m d) y.code))(h2:∀s,y= .ok s->StIs elP w' (.agg #[.slice P n c,.slice Q m d]) s)(h3:∀e,y= .er e->e≠0):Cx w' k V E y:=by
 have hl:=h.lt
 obtain⟨_,_,w0,h4,h5,h6⟩:=h
 exact⟨⟨P,n,c,Q,m,d,h1,h2⟩,h3,w0,h4,h5,h6.trans (hb.below h5 hl)⟩
def CkEnds (w:World)(k:Nat)(V:EV)(E:EnvP)(x:Rs)(r:Value)(e:Ending)(w':World):Prop:=e= .returned r/\Cx w' k V E x/\But k w w'
def Bd (x:Rs)(n:Nat):Prop:=∀s,x= .ok s->s.vals.length<=n/\s.cs.length<=n
theorem Bd.mono {x:Rs}{n m:Nat}(h:Bd x n)(hm:n<=m):Bd x m:=fun s hs=>⟨Nat.le_trans (h s hs).1 hm,Nat.le_trans (h s hs).2 hm⟩
theorem ofP_ok {r:Stk×Int}{s:Stk}(h:ofP r= .ok s):r.2=0/\r.1=s:=by
 unfold ofP at h
 split at h
 ·injection h with h
  exact⟨by assumption,h⟩
 ·cases h
theorem bind_ok {x:Rs}{f:Stk->Rs}{s:Stk}(h:x.bind f= .ok s):∃t,x= .ok t/\f t= .ok s:=by
 cases x with
 | ok t=>exact ⟨t,rfl,h⟩
 | er e=>cases h
theorem Bd.push {x:Rs}{n:Nat}{l:List Int}(h:Bd x n){m:Nat}(hl:l.length<=m):Bd (pushR l x) (n+m):=fun s hs=>by
 obtain⟨t,rfl,h2⟩:=bind_ok hs
 obtain⟨_,rfl⟩:=ofP_ok h2
 have h1:=h t rfl
 have:=act_le t ⟨0,0,l⟩
 rw[act_push (.inl rfl)] at this
 have hc:(pushS t l).1.cs.length<=t.cs.length:=by
  unfold pushS;split
  ·exact Nat.zero_le _
  ·split
   ·exact Nat.zero_le _
   ·exact Nat.le_refl _
 simp only at this
 omega
theorem wantS_le (t:Stk)(l:List Int):(wantS t l).1.vals.length<=t.vals.length/\(wantS t l).1.cs.length<=t.cs.length:=by
 unfold wantS
 split
 ·exact ⟨Nat.zero_le _,Nat.zero_le _⟩
 ·cases hw:wantV t.cs.getLast? t.vals l.reverse with
  | none=>exact ⟨Nat.zero_le _,Nat.zero_le _⟩
  | some vs=>exact ⟨wantV_le _ hw,Nat.le_refl _⟩
theorem popS_le (t:Stk):(popS t).1.vals.length<=t.vals.length/\(popS t).1.cs.length<=t.cs.length:=by
 unfold popS
 split
 ·exact ⟨Nat.zero_le _,Nat.zero_le _⟩
 ·cases hw:popV t.cs.getLast? t.vals with
  | none=>exact ⟨Nat.zero_le _,Nat.zero_le _⟩
  | some p=>exact ⟨popV_le hw,Nat.le_refl _⟩
theorem closeS_le (t:Stk):(zaM t).1.vals.length<=t.vals.length/\(zaM t).1.cs.length<=t.cs.length:=by
 unfold zaM
 split
 ·exact ⟨Nat.zero_le _,Nat.zero_le _⟩
 ·cases hc:t.cs.getLast? with
  | none=>exact ⟨Nat.zero_le _,Nat.zero_le _⟩
  | some c=>
   cases hw:wantV (some c) t.vals c.fin.reverse with
   | none=>simp only[hw];exact⟨Nat.zero_le _,Nat.zero_le _⟩
   | some vs=>
    simp only[hw]
    split
    ·exact ⟨Nat.zero_le _,Nat.zero_le _⟩
    ·refine ⟨wantV_le _ hw,?_⟩
     rw[List.length_dropLast]
     exact Nat.sub_le _ _
theorem killS_le (t:Stk):(killS t).1.vals.length<=t.vals.length/\(killS t).1.cs.length<=t.cs.length:=by
 unfold killS
 split
 ·exact ⟨Nat.zero_le _,Nat.zero_le _⟩
 ·cases hc:t.cs.getLast? with
  | none=>exact ⟨Nat.zero_le _,Nat.zero_le _⟩
  | some c=>
   refine⟨by simp only[List.length_take];omega,?_⟩
   have:t.cs≠[]:=by intro e;rw[e] at hc;cases hc
   have:=List.length_pos_iff.2 this
   simp only[List.length_append,List.length_dropLast,List.length_singleton]
   omega
theorem Bd.want {x:Rs}{n:Nat}{l:List Int}(h:Bd x n):Bd (wantR l x) n:=fun s hs=>by
 obtain⟨t,rfl,h2⟩:=bind_ok hs
 obtain⟨_,rfl⟩:=ofP_ok h2
 have h1:=h t rfl
 have:=wantS_le t l
 omega
theorem Bd.pop {x:Rs}{n:Nat}(h:Bd x n):Bd (popR x) n:=fun s hs=>by
 obtain⟨t,rfl,h2⟩:=bind_ok hs
 obtain⟨_,rfl⟩:=ofP_ok h2
 have h1:=h t rfl
 have:=popS_le t
 simp only
 omega
theorem Bd.close {x:Rs}{n:Nat}(h:Bd x n):Bd (closeR x) n:=fun s hs=>by
 obtain⟨t,rfl,h2⟩:=bind_ok hs
 obtain⟨_,rfl⟩:=ofP_ok h2
 have h1:=h t rfl
 have:=closeS_le t
 simp only
 omega
theorem Bd.kill {x:Rs}{n:Nat}(h:Bd x n):Bd (killR x) n:=fun s hs=>by
 obtain⟨t,rfl,h2⟩:=bind_ok hs
 obtain⟨_,rfl⟩:=ofP_ok h2
 have h1:=h t rfl
 have:=killS_le t
 omega
theorem Bd.open {x:Rs}{n:Nat}{op:Int}{l:List Int}(h:Bd x n):Bd (openR op l x) (n+1):=fun s hs=>by
 obtain⟨t,rfl,h2⟩:=bind_ok hs
 obtain⟨_,rfl⟩:=ofP_ok h2
 have h1:=h t rfl
 unfold openS
 split
 ·exact ⟨Nat.zero_le _,Nat.zero_le _⟩
 ·split
  ·exact ⟨Nat.zero_le _,Nat.zero_le _⟩
  ·refine ⟨by simp only;omega,?_⟩
   simp only[List.length_append,List.length_singleton]
   omega
theorem Bd.need {x:Rs}{n:Nat}{b:Bool}{e:Int}(h:Bd x n):Bd (needR b e x) n:=fun s hs=>by
 obtain⟨t,rfl,h2⟩:=bind_ok hs
 split at h2
 ·injection h2 with h2
  subst h2
  exact h t rfl
 ·cases h2
theorem Bd.label {x:Rs}{n:Nat}{i:Int}(h:Bd x n):Bd (labelR i x) n:=fun s hs=>by
 obtain⟨t,rfl,h2⟩:=bind_ok hs
 split at h2
 ·injection h2 with h2
  subst h2
  exact h t rfl
 ·cases h2
theorem label_len (s:Stk)(n:Int):(labelS s n).1.length<=1:=by
 unfold labelS
 split
 ·simp
 ·split
  ·simp
  ·split
   ·simp
   ·rename_i c hc
    split
    ·simp
    ·rename_i h1 _ _ _
     have hs:sane s=true:=by simpa using h1
     obtain⟨z,h1,_⟩:=(sane_iff s).1 hs
     have hm:=List.mem_of_getElem? hc
     obtain⟨a,b,hab⟩:=List.append_of_mem hm
     rw[hab,sgo_append] at h1
     cases hq:sgo 0 a with
     | none=>rw[hq] at h1;cases h1
     | some z'=>
      rw[hq] at h1
      simp only[sgo] at h1
      split at h1
      ·rename_i hc
       rw[Bool.and_eq_true] at hc
       exact mayE_len hc.1
      ·cases h1
theorem labelL_len (n:Int)(x:Rs):(labelL n x).length<=1:=by
 cases x with
 | ok s=>exact label_len s n
 | er e=>exact Nat.zero_le _
theorem closed_len (x:Rs):(closedC x).fin.length<=1:=by
 cases x with
 | er e=>exact Nat.zero_le _
 | ok s=>
  show (zaM s).2.1.fin.length<=1
  cases hs:sane s with
  | false=>rw[close_notsane hs];exact Nat.zero_le _
  | true=>
   rcases last_cases s.cs with hc | ⟨q,c,hc⟩
   ·rw[close_empty hs hc];exact Nat.zero_le _
   ·rw[close_last hs hc]
    cases hw:wantV (some c) s.vals c.fin.reverse with
    | none=>exact Nat.zero_le _
    | some vs=>
     simp only
     split
     ·exact Nat.zero_le _
     ·exact mayE_len (sane_fin hs hc)
theorem zaL (w:World)(x:Int)(h:0<=x/\x<256):Row elB (w.alloc (.cells #[.int .u8 x] 5)) (.slice (some ⟨w.heap.size,0,none⟩) 1 1) [x]:=by
 refine⟨⟨_,1,rfl,Nat.le_refl _,by omega,fun _=>⟨w.heap.size,0,rfl,by rw[zaD];omega,fun j p hj=>?_⟩⟩,fun p hp=>?_⟩
 ·rcases j with _ | j
  ·obtain rfl:=Option.some.inj hj
   rw[Nat.zero_mul,Nat.add_zero]
   exact newG' elB w x #[.int .u8 x] _ rfl rfl
  ·simp at hj
 ·obtain rfl:=List.mem_singleton.1 hp
  exact h
theorem ofP_code (r:Stk×Int):(ofP r).code=r.2:=by
 unfold ofP
 split
 ·rename_i h
  exact h.symm
 ·rfl
theorem ofP_ne {r:Stk×Int}{e:Int}(h:ofP r= .er e):e≠0:=by
 unfold ofP at h
 split at h
 ·cases h
 ·rename_i h1
  injection h with h
  rw[<- h]
  exact h1
theorem Cx.ok {w:World}{k:Nat}{V:EV}{E:EnvP}{s:Stk}(h:Cx w k V E (.ok s)):∃P n c Q m d,w.heap[k]? = some (ckObj V E (.slice P n c) (.slice Q m d) 0)/\StIs elP w (.agg #[.slice P n c,.slice Q m d]) s:=by
 obtain⟨⟨P,n,c,Q,m,d,h1,h2⟩,_⟩:=h
 exact⟨P,n,c,Q,m,d,h1,h2 s rfl⟩
theorem Cx.er {w:World}{k:Nat}{V:EV}{E:EnvP}{e:Int}(h:Cx w k V E (.er e)):∃P n c Q m d,w.heap[k]? = some (ckObj V E (.slice P n c) (.slice Q m d) e)/\(e == 0)=false:=by
 obtain⟨⟨P,n,c,Q,m,d,h1,_⟩,h2,_⟩:=h
 exact⟨P,n,c,Q,m,d,h1,by simpa using h2 e rfl⟩
theorem Cx.made {w w1:World}{k:Nat}{V:EV}{E:EnvP}{s:Stk}{r:Stk×Int}(h:Cx w k V E (.ok s))(hb:Below w.heap.size w w1){P n c Q m d}(hs:StIs elP w1 (.agg #[.slice P n c,.slice Q m d]) r.1):
  Cx (((w1.setCell ⟨k,7,none⟩ (.slice P n c)).setCell ⟨k,8,none⟩ (.slice Q m d)).setCell ⟨k,9,none⟩ (.int .i64 r.2)) k V E (ofP r)/\But k w (((w1.setCell ⟨k,7,none⟩ (.slice P n c)).setCell ⟨k,8,none⟩ (.slice Q m d)).setCell ⟨k,9,none⟩ (.int .i64 r.2)):=by
 obtain⟨P0,n0,c0,Q0,m0,d0,h1,_⟩:=h.ok
 have h1':=blk h1 hb
 have hbt:=but_set10 w1 k (.slice P n c) (.slice Q m d) (.int .i64 r.2)
 have hbb:But k w (((w1.setCell ⟨k,7,none⟩ (.slice P n c)).setCell ⟨k,8,none⟩ (.slice Q m d)).setCell ⟨k,9,none⟩ (.int .i64 r.2)):=(But.of_below hb).trans hbt
 refine⟨h.put hbb (by rw[ofP_code];exact set10 h1' _ _ _) (fun s' hs'=>?_) (fun e he=>ofP_ne he),hbb⟩
 obtain⟨_,rfl⟩:=ofP_ok hs'
 exact StIs.apart (e:=72) (hi:=infoP) hs (nobb_ck h1') hbt
theorem Cx.fault {w:World}{k:Nat}{V:EV}{E:EnvP}{s:Stk}{e:Int}(h:Cx w k V E (.ok s))(he:e≠0):Cx (w.setCell ⟨k,9,none⟩ (.int .i64 e)) k V E (.er e)/\But k w (w.setCell ⟨k,9,none⟩ (.int .i64 e)):=by
 obtain⟨P0,n0,c0,Q0,m0,d0,h1,_⟩:=h.ok
 have hbt:But k w (w.setCell ⟨k,9,none⟩ (.int .i64 e)):=(But.refl k w).setCell 9 _
 exact⟨h.put hbt (set10e h1 e) (fun s' hs'=>by cases hs') (fun e' he'=>by injection he' with he';rw[<- he'];exact he),hbt⟩
theorem push_ck {w:World}{k:Nat}{V:EV}{E:EnvP}{x:Rs}{l:List Int}{lv:Value}(h:Cx w k V E x)(hb:Bd x 400000)(hl:Row elB w lv l)(hn:l.length<=400000):Calls Tryz.prog 120 #[.pointer (some ⟨k,0,none⟩),lv] w (CkEnds w k V E (pushR l x) (.tuple #[])):=by
 cases x with
 | er e=>
  obtain⟨P,n,c,Q,m,d,h1,t1⟩:=h.er
  obtain⟨c7,c8,c9,f7,f8,f9⟩:=cells10 h1
  have H:=jq h
  have hkl:k<w.heap.size:=h.lt
  clear h h1 hb
  go_enter Tryz.func120,Tryz.ntmps120
  go_wp2_with fail
  exact bodyPost_end (v:=.tuple #[]) (by simp[results,Tryz.results120,go_sem]) rfl ⟨rfl,H.out,But.refl _ _⟩
 | ok s=>
  obtain⟨P,n,c,Q,m,d,h1,hs⟩:=h.ok
  have hbd:=hb s rfl
  have HK:=jq (Push_st hs hl hbd.1 hbd.2 hn)
  obtain⟨c7,c8,c9,f7,f8,f9⟩:=cells10 h1
  have H:=jq h
  have H1:=jq h1
  have hkl:k<w.heap.size:=h.lt
  clear h h1 hs hb hbd
  go_enter Tryz.func120,Tryz.ntmps120
  go_wp2_with fail
  clear c7 c8 c9 f7 f8 f9 hkl
  refine HK.out.mono ?_
  rintro e w1 hen
  obtain⟨P5,n5,c5,Q5,m5,d5,rfl,hst,hb⟩:=hen.of
  obtain⟨hc,hbt⟩:=Cx.made H.out hb hst
  have HC:=jq hc
  have HBT:=jq hbt
  obtain⟨c7,c8,c9,f7,f8,f9⟩:=cells10 (blk H1.out hb)
  have hkl:k<w1.heap.size:=jl (blk H1.out hb)
  clear hen hst hb hc hbt HK
  go_wp2_with fail
  exact bodyPost_end (v:=.tuple #[]) (by simp[results,Tryz.results120,go_sem]) rfl ⟨rfl,HC.out,HBT.out⟩
theorem want_ck {w:World}{k:Nat}{V:EV}{E:EnvP}{x:Rs}{l:List Int}{lv:Value}(h:Cx w k V E x)(hb:Bd x 400000)(hl:Row elB w lv l)(hn:l.length<=400000):Calls Tryz.prog 123 #[.pointer (some ⟨k,0,none⟩),lv] w (CkEnds w k V E (wantR l x) (.tuple #[])):=by
 cases x with
 | er e=>
  obtain⟨P,n,c,Q,m,d,h1,t1⟩:=h.er
  obtain⟨c7,c8,c9,f7,f8,f9⟩:=cells10 h1
  have H:=jq h
  have hkl:k<w.heap.size:=h.lt
  clear h h1 hb
  go_enter Tryz.func123,Tryz.ntmps123
  go_wp2_with fail
  exact bodyPost_end (v:=.tuple #[]) (by simp[results,Tryz.results123,go_sem]) rfl ⟨rfl,H.out,But.refl _ _⟩
 | ok s=>
  obtain⟨P,n,c,Q,m,d,h1,hs⟩:=h.ok
  have hbd:=hb s rfl
  have HK:=jq (Want_st hs hl hbd.1 hbd.2 hn)
  obtain⟨c7,c8,c9,f7,f8,f9⟩:=cells10 h1
  have H:=jq h
  have H1:=jq h1
  have hkl:k<w.heap.size:=h.lt
  clear h h1 hs hb hbd
  go_enter Tryz.func123,Tryz.ntmps123
  go_wp2_with fail
  clear c7 c8 c9 f7 f8 f9 hkl
  refine HK.out.mono ?_
  rintro e w1 hen
  obtain⟨P5,n5,c5,Q5,m5,d5,rfl,hst,hb⟩:=hen.of
  obtain⟨hc,hbt⟩:=Cx.made H.out hb hst
  have HC:=jq hc
  have HBT:=jq hbt
  obtain⟨c7,c8,c9,f7,f8,f9⟩:=cells10 (blk H1.out hb)
  have hkl:k<w1.heap.size:=jl (blk H1.out hb)
  clear hen hst hb hc hbt HK
  go_wp2_with fail
  exact bodyPost_end (v:=.tuple #[]) (by simp[results,Tryz.results123,go_sem]) rfl ⟨rfl,HC.out,HBT.out⟩
theorem open_ck {w:World}{k:Nat}{V:EV}{E:EnvP}{x:Rs}{op:Int}{l:List Int}{lv:Value}(h:Cx w k V E x)(hb:Bd x 400000)(hop:w64 op)(hl:Row elB w lv l)(hn:l.length<=400000):Calls Tryz.prog 78 #[.pointer (some ⟨k,0,none⟩),.int .i64 op,lv] w (CkEnds w k V E (openR op l x) (.tuple #[])):=by
 cases x with
 | er e=>
  obtain⟨P,n,c,Q,m,d,h1,t1⟩:=h.er
  obtain⟨c7,c8,c9,f7,f8,f9⟩:=cells10 h1
  have H:=jq h
  have hkl:k<w.heap.size:=h.lt
  clear h h1 hb
  go_enter Tryz.func78,Tryz.ntmps78
  go_wp2_with fail
  exact bodyPost_end (v:=.tuple #[]) (by simp[results,Tryz.results78,go_sem]) rfl ⟨rfl,H.out,But.refl _ _⟩
 | ok s=>
  obtain⟨P,n,c,Q,m,d,h1,hs⟩:=h.ok
  have hbd:=hb s rfl
  have HK:=jq (Open_st hs hl hop hbd.1 hbd.2 hn)
  obtain⟨c7,c8,c9,f7,f8,f9⟩:=cells10 h1
  have H:=jq h
  have H1:=jq h1
  have hkl:k<w.heap.size:=h.lt
  clear h h1 hs hb hbd
  go_enter Tryz.func78,Tryz.ntmps78
  go_wp2_with fail
  clear c7 c8 c9 f7 f8 f9 hkl
  refine HK.out.mono ?_
  rintro e w1 hen
  obtain⟨P5,n5,c5,Q5,m5,d5,rfl,hst,hb⟩:=hen.of
  obtain⟨hc,hbt⟩:=Cx.made H.out hb hst
  have HC:=jq hc
  have HBT:=jq hbt
  obtain⟨c7,c8,c9,f7,f8,f9⟩:=cells10 (blk H1.out hb)
  have hkl:k<w1.heap.size:=jl (blk H1.out hb)
  clear hen hst hb hc hbt HK
  go_wp2_with fail
  exact bodyPost_end (v:=.tuple #[]) (by simp[results,Tryz.results78,go_sem]) rfl ⟨rfl,HC.out,HBT.out⟩
theorem kill_ck {w:World}{k:Nat}{V:EV}{E:EnvP}{x:Rs}(h:Cx w k V E x)(hb:Bd x 400000):Calls Tryz.prog 119 #[.pointer (some ⟨k,0,none⟩)] w (CkEnds w k V E (killR x) (.tuple #[])):=by
 cases x with
 | er e=>
  obtain⟨P,n,c,Q,m,d,h1,t1⟩:=h.er
  obtain⟨c7,c8,c9,f7,f8,f9⟩:=cells10 h1
  have H:=jq h
  have hkl:k<w.heap.size:=h.lt
  clear h h1 hb
  go_enter Tryz.func119,Tryz.ntmps119
  go_wp2_with fail
  exact bodyPost_end (v:=.tuple #[]) (by simp[results,Tryz.results119,go_sem]) rfl ⟨rfl,H.out,But.refl _ _⟩
 | ok s=>
  obtain⟨P,n,c,Q,m,d,h1,hs⟩:=h.ok
  have hbd:=hb s rfl
  have HK:=jq (Kill_st hs hbd.1 hbd.2)
  obtain⟨c7,c8,c9,f7,f8,f9⟩:=cells10 h1
  have H:=jq h
  have H1:=jq h1
  have hkl:k<w.heap.size:=h.lt
  clear h h1 hs hb hbd
  go_enter Tryz.func119,Tryz.ntmps119
  go_wp2_with fail
  clear c7 c8 c9 f7 f8 f9 hkl
  refine HK.out.mono ?_
  rintro e w1 hen
  obtain⟨P5,n5,c5,Q5,m5,d5,rfl,hst,hb⟩:=hen.of
  obtain⟨hc,hbt⟩:=Cx.made H.out hb hst
  have HC:=jq hc
  have HBT:=jq hbt
  obtain⟨c7,c8,c9,f7,f8,f9⟩:=cells10 (blk H1.out hb)
  have hkl:k<w1.heap.size:=jl (blk H1.out hb)
  clear hen hst hb hc hbt HK
  go_wp2_with fail
  exact bodyPost_end (v:=.tuple #[]) (by simp[results,Tryz.results119,go_sem]) rfl ⟨rfl,HC.out,HBT.out⟩
theorem pop_ck {w:World}{k:Nat}{V:EV}{E:EnvP}{x:Rs}(h:Cx w k V E x)(hb:Bd x 400000):Calls Tryz.prog 124 #[.pointer (some ⟨k,0,none⟩)] w (CkEnds w k V E (popR x) (.int .u8 (popB x))):=by
 cases x with
 | er e=>
  obtain⟨P,n,c,Q,m,d,h1,t1⟩:=h.er
  obtain⟨c7,c8,c9,f7,f8,f9⟩:=cells10 h1
  have H:=jq h
  have hkl:k<w.heap.size:=h.lt
  clear h h1 hb
  go_enter Tryz.func124,Tryz.ntmps124
  go_wp2_with fail
  exact jr (v:=.int .u8 0) (by simp[results,Tryz.results124,go_sem]) rfl ⟨rfl,H.out,But.refl _ _⟩
 | ok s=>
  obtain⟨P,n,c,Q,m,d,h1,hs⟩:=h.ok
  have hbd:=hb s rfl
  have HK:=jq (Pop_st hs hbd.1 hbd.2)
  obtain⟨c7,c8,c9,f7,f8,f9⟩:=cells10 h1
  have H:=jq h
  have H1:=jq h1
  have hkl:k<w.heap.size:=h.lt
  clear h h1 hs hb hbd
  go_enter Tryz.func124,Tryz.ntmps124
  go_wp2_with fail
  clear c7 c8 c9 f7 f8 f9 hkl
  refine HK.out.mono ?_
  rintro e w1 hen
  obtain⟨P5,n5,c5,Q5,m5,d5,rfl,hst,hb⟩:=hen.of
  obtain⟨hc,hbt⟩:=Cx.made (r:=((popS s).1,(popS s).2.2)) H.out hb hst
  have HC:=jq hc
  have HBT:=jq hbt
  obtain⟨c7,c8,c9,f7,f8,f9⟩:=cells10 (blk H1.out hb)
  have hkl:k<w1.heap.size:=jl (blk H1.out hb)
  clear hen hst hb hc hbt HK
  go_wp2_with fail
  exact jr (v:=.int .u8 (popS s).2.1) (by simp[results,Tryz.results124,go_sem]) rfl ⟨rfl,HC.out,HBT.out⟩
theorem need_ck {w:World}{k:Nat}{V:EV}{E:EnvP}{x:Rs}{b:Bool}{i:Int}(h:Cx w k V E x)(hi:i≠0):Calls Tryz.prog 59 #[.pointer (some ⟨k,0,none⟩),.bool b,.int .i64 i] w (CkEnds w k V E (needR b i x) (.tuple #[])):=by
 cases x with
 | er e=>
  obtain⟨P,n,c,Q,m,d,h1,t1⟩:=h.er
  obtain⟨c7,c8,c9,f7,f8,f9⟩:=cells10 h1
  have H:=jq h
  have hkl:k<w.heap.size:=h.lt
  clear h h1
  cases b
  all_goals (
   go_enter Tryz.func59,Tryz.ntmps59
   go_wp2_with fail
   exact bodyPost_end (v:=.tuple #[]) (by simp[results,Tryz.results59,go_sem]) rfl ⟨rfl,H.out,But.refl _ _⟩)
 | ok s=>
  obtain⟨P,n,c,Q,m,d,h1,hs⟩:=h.ok
  obtain⟨c7,c8,c9,f7,f8,f9⟩:=cells10 h1
  have H:=jq h
  have hkl:k<w.heap.size:=h.lt
  obtain⟨hc,hbt⟩:=h.fault hi
  have HC:=jq hc
  have HBT:=jq hbt
  clear h h1 hs hc hbt
  cases b with
  | true=>
   go_enter Tryz.func59,Tryz.ntmps59
   go_wp2_with fail
   exact bodyPost_end (v:=.tuple #[]) (by simp[results,Tryz.results59,go_sem]) rfl ⟨rfl,H.out,But.refl _ _⟩
  | false=>
   go_enter Tryz.func59,Tryz.ntmps59
   go_wp2_with fail
   exact bodyPost_end (v:=.tuple #[]) (by simp[results,Tryz.results59,go_sem]) rfl ⟨rfl,HC.out,HBT.out⟩
def LbEnds (w:World)(k:Nat)(V:EV)(E:EnvP)(x:Rs)(l:List Int)(e:Ending)(w':World):Prop:=∃P n c,e= .returned (.slice P n c)/\Row elB w' (.slice P n c) l/\Cx w' k V E x/\But k w w'
theorem Label_st2 {v:Value}{s:Stk}{n:Int}{w:World}(h:StIs elP w v s)(hn:w64 n)(h2:s.cs.length<=400000):Calls Tryz.prog 157 #[v,.int .i64 n] w (LabTold (labelS s n) w):=by
 cases hs:sane s with
 | true=>exact Label_st h hn h2 hs
 | false=>
  obtain⟨a,c,l,rfl,ha,hc,hl⟩:=h
  obtain⟨vals,cs⟩:=s
  subst hl
  obtain⟨Pa,ca,rfl,_⟩:=ha.form
  obtain⟨Pc,cc_,rfl,_⟩:=hc.form
  have HB0:=jq (zaB w (.cells #[.slice Pa vals.length ca,.slice Pc l.length cc_] 39))
  have HS:=jq (Sane_st (s:=⟨vals,l.map (·.1)⟩) ⟨_,_,l,rfl,ha.keep HB0.out,hc.keep HB0.out,rfl⟩)
  rw[hs] at HS
  rw[label_no hs]
  simp only at HB0 HS ⊢
  generalize vals.length=nv at *
  generalize l.length=nl at *
  clear ha hc hs h2 hn
  go_enter Tryz.func157,Tryz.ntmps157
  go_wp2_with fail
  refine HS.out.mono ?_
  rintro e w1 ⟨rfl,hb⟩
  have HB1:=jq (HB0.out.trans (hb.mono HB0.out.size))
  clear hb HS
  go_wp2_with fail
  exact jr (v:=.tuple #[.slice none 0 0,.int .i64 1]) (by simp[results,Tryz.results157,go_sem]) rfl ⟨⟨_,rfl,Row.nil _ _⟩,HB1.out⟩
theorem label_ck {w:World}{k:Nat}{V:EV}{E:EnvP}{x:Rs}{i:Int}(h:Cx w k V E x)(hb:Bd x 400000)(hi:w64 i):Calls Tryz.prog 127 #[.pointer (some ⟨k,0,none⟩),.int .i64 i] w (LbEnds w k V E (labelR i x) (labelL i x)):=by
 cases x with
 | er e=>
  obtain⟨P,n,c,Q,m,d,h1,t1⟩:=h.er
  obtain⟨c7,c8,c9,f7,f8,f9⟩:=cells10 h1
  have H:=jq h
  have hkl:k<w.heap.size:=h.lt
  clear h h1 hb
  go_enter Tryz.func127,Tryz.ntmps127
  go_wp2_with fail
  exact jr (v:=.slice none 0 0) (by simp[results,Tryz.results127,go_sem]) rfl ⟨_,_,_,rfl,Row.nil _ _,H.out,But.refl _ _⟩
 | ok s=>
  obtain⟨P,n,c,Q,m,d,h1,hs⟩:=h.ok
  have hbd:=hb s rfl
  have HK:=jq (Label_st2 hs hi hbd.2)
  obtain⟨c7,c8,c9,f7,f8,f9⟩:=cells10 h1
  have H:=jq h
  have H1:=jq h1
  have hkl:k<w.heap.size:=h.lt
  clear h h1 hs hb hbd
  go_enter Tryz.func127,Tryz.ntmps127
  go_wp2_with fail
  clear c7 c8 c9 f7 f8 f9 hkl
  refine HK.out.mono ?_
  rintro e w1 hen
  obtain⟨P5,n5,c5,rfl,hrow,_,hb⟩:=hen.of
  have HX:=jq (H.out.keep hb)
  have hbt:But k w1 (w1.setCell ⟨k,9,none⟩ (.int .i64 (labelS s i).2)):=(But.refl k w1).setCell 9 _
  have HBT:=jq ((But.of_below (g:=k) hb).trans hbt)
  have HR:=jq (zaG hrow HX.out.nobb hbt)
  have HC:Hid (Cx (w1.setCell ⟨k,9,none⟩ (.int .i64 (labelS s i).2)) k V E (labelR i (.ok s))):=by
   obtain⟨P0,n0,c0,Q0,m0,d0,h1,hst⟩:=HX.out.ok
   show Cx _ k V E (if (labelS s i).2=0 then Rs.ok s else Rs.er (labelS s i).2)
   by_cases h0:(labelS s i).2=0
   ·rw[if_pos h0]
    refine HX.out.put hbt (by rw[h0];exact set10e h1 0) (fun s' hs'=>?_) (fun e he=>by cases he)
    injection hs' with hs'
    subst hs'
    exact StIs.apart (e:=72) (hi:=infoP) hst (nobb_ck h1) hbt
   ·rw[if_neg h0]
    exact HX.out.put hbt (set10e h1 _) (fun s' hs'=>by cases hs') (fun e he=>by injection he with he;rw[<- he];exact h0)
  obtain⟨c7,c8,c9,f7,f8,f9⟩:=cells10 (blk H1.out hb)
  have hkl:k<w1.heap.size:=jl (blk H1.out hb)
  clear hen hrow hb hbt HK
  go_wp2_with fail
  exact jr (v:=.slice P5 n5 c5) (by simp[results,Tryz.results127,go_sem]) rfl ⟨_,_,_,rfl,HR.out,HC.out,HBT.out⟩
def ClEnds (w:World)(k:Nat)(V:EV)(E:EnvP)(x:Rs)(c:Ctl)(e:Ending)(w':World):Prop:=∃P n d,e= .returned (.agg #[.int .i64 c.op,.slice P n d,.int .i64 c.ht,.bool c.dead])/\Row elB w' (.slice P n d) c.fin/\Cx w' k V E x/\But k w w'
theorem close_ck {w:World}{k:Nat}{V:EV}{E:EnvP}{x:Rs}(h:Cx w k V E x)(hb:Bd x 400000):Calls Tryz.prog 151 #[.pointer (some ⟨k,0,none⟩)] w (ClEnds w k V E (closeR x) (closedC x)):=by
 have HB0:=jq (zaB w (.cells #[.int .i64 0,.slice none 0 0,.int .i64 0,.bool false] 72))
 have HZ:=jq (zaC w (.cells #[.int .i64 0,.slice none 0 0,.int .i64 0,.bool false] 72))
 have H:=jq (h.keep HB0.out)
 have hkl:k<w.heap.size:=h.lt
 have HKL:Hid (k<w.heap.size):=hkl
 cases x with
 | er e=>
  obtain⟨P,n,c,Q,m,d,h1,t1⟩:=h.er
  obtain⟨c7,c8,c9,f7,f8,f9⟩:=cells10 h1
  clear h h1 hb
  go_enter Tryz.func151,Tryz.ntmps151
  go_wp2_with fail
  obtain⟨z0,z1,z2,z3⟩:=cells4 HZ.out
  exact jr (v:=.agg #[.int .i64 0,.slice none 0 0,.int .i64 0,.bool false]) (by simp[results,Tryz.results151,go_sem,z0,z1,z2,z3]) rfl ⟨_,_,_,rfl,Row.nil _ _,H.out,But.of_below HB0.out⟩
 | ok s=>
  have HH:=jq h
  obtain⟨P,n,c,Q,m,d,h1,hs⟩:=h.ok
  have hbd:=hb s rfl
  have HK:=jq (Close_hst (hs.keep HB0.out) hbd.1 hbd.2)
  have HX:=jq (blk h1 HB0.out)
  obtain⟨c7,c8,c9,f7,f8,f9⟩:=cells10 h1
  clear h h1 hs hb hbd
  go_enter Tryz.func151,Tryz.ntmps151
  go_wp2_with fail
  clear c7 c8 c9 f7 f8 f9 hkl
  generalize w.alloc (.cells #[.int .i64 0,.slice none 0 0,.int .i64 0,.bool false] 72)=w0 at *
  obtain⟨z,hz⟩:∃z,w.heap.size=z:=⟨_,rfl⟩
  have HZW:Hid (w.heap.size=z):=hz
  rw[hz] at HZ HKL
  simp only[hz]
  refine HK.out.mono ?_
  rintro e w1 hen
  obtain⟨P5,n5,c5,Q5,m5,d5,R5,k5,f5,rfl,hst,hrow,hb⟩:=hen.of
  have HB1:=jq hb
  have HX1:=jq (blk HX.out hb)
  have HZ1:=jq (blk HZ.out hb)
  have HST:=jq hst
  have HROW:=jq hrow
  have HK0:Hid (k<w0.heap.size):=jl HX.out
  have HZ0:Hid (z<w0.heap.size):=jl HZ.out
  clear hen hst hrow hb HK hz
  obtain⟨c7,c8,c9,f7,f8,f9⟩:=cells10 HX1.out
  obtain⟨z0,z1,z2,z3⟩:=cells4 HZ1.out
  have zp0:=(zaA HZ1.out 0).2
  have zp1:=(zaA HZ1.out 1).2
  have zp2:=(zaA HZ1.out 2).2
  have zp3:=(zaA HZ1.out 3).2
  have hzl:z<w1.heap.size:=jl HZ1.out
  have hkl:k<w1.heap.size:=jl HX1.out
  have hkz:k≠z:=by have:=HKL.out;omega
  have hzk:z≠k:=Ne.symm hkz
  go_wp2_with fail
  clear c7 c8 c9 f7 f8 f9 z0 z1 z2 z3 zp0 zp1 zp2 zp3 hzl hkl
  generalize hop:(zaM s).2.1.op=op at *
  generalize hht:(zaM s).2.1.ht=ht at *
  generalize hdd:(zaM s).2.1.dead=dd at *
  have a1:=zaE (zaE (show w1.heap[k]? = some (ckObj V E (.slice P n c) (.slice Q m d) 0) from HX1.out) (i:=7) (.slice P5 n5 c5)) (i:=8) (.slice Q5 m5 d5)
  have a1:((w1.setCell ⟨k,7,none⟩ (.slice P5 n5 c5)).setCell ⟨k,8,none⟩ (.slice Q5 m5 d5)).heap[k]? = some (ckObj V E (.slice P5 n5 c5) (.slice Q5 m5 d5) 0):=a1
  have ab:But k w1 ((w1.setCell ⟨k,7,none⟩ (.slice P5 n5 c5)).setCell ⟨k,8,none⟩ (.slice Q5 m5 d5)):=((But.refl k w1).setCell 7 _).setCell 8 _
  have az:=(ab.block z (jl HZ1.out) hzk).trans HZ1.out
  have ar:=zaG HROW.out (nobb_ck HX1.out) ab
  generalize (w1.setCell ⟨k,7,none⟩ (.slice P5 n5 c5)).setCell ⟨k,8,none⟩ (.slice Q5 m5 d5)=wa at *
  have bc:=chg4 wa z (.int .i64 op) (.slice R5 k5 f5) (.int .i64 ht) (.bool dd)
  have b1:=blk2 bc a1 hkz
  have bz:=store4 az (.int .i64 op) (.slice R5 k5 f5) (.int .i64 ht) (.bool dd)
  have bs:=size4 wa z (.int .i64 op) (.slice R5 k5 f5) (.int .i64 ht) (.bool dd)
  have br:=rowB_chg ar (no8_ctl az (by intro x;simp) (by intro x;simp) (by intro x;simp) (by intro x;simp)) bc (Nat.le_of_eq bs.symm)
  have bb:=below_set4 (Below.refl wa.heap.size wa) (z:=z)
  have bo:((((wa.setCell ⟨z,0,none⟩ (.int .i64 op)).setCell ⟨z,1,none⟩ (.slice R5 k5 f5)).setCell ⟨z,2,none⟩ (.int .i64 ht)).setCell ⟨z,3,none⟩ (.bool dd)).os=wa.os/\((((wa.setCell ⟨z,0,none⟩ (.int .i64 op)).setCell ⟨z,1,none⟩ (.slice R5 k5 f5)).setCell ⟨z,2,none⟩ (.int .i64 ht)).setCell ⟨z,3,none⟩ (.bool dd)).tape=wa.tape/\((((wa.setCell ⟨z,0,none⟩ (.int .i64 op)).setCell ⟨z,1,none⟩ (.slice R5 k5 f5)).setCell ⟨z,2,none⟩ (.int .i64 ht)).setCell ⟨z,3,none⟩ (.bool dd)).output=wa.output:=⟨rfl,rfl,rfl⟩
  clear bb
  generalize (((wa.setCell ⟨z,0,none⟩ (.int .i64 op)).setCell ⟨z,1,none⟩ (.slice R5 k5 f5)).setCell ⟨z,2,none⟩ (.int .i64 ht)).setCell ⟨z,3,none⟩ (.bool dd)=wb at *
  have c1:=set10e b1 (zaM s).2.2
  have cb:But k wb (wb.setCell ⟨k,9,none⟩ (.int .i64 (zaM s).2.2)):=(But.refl k wb).setCell 9 _
  have cz:=(cb.block z (jl bz) hzk).trans bz
  have cr:=zaG br (nobb_ck b1) cb
  generalize wb.setCell ⟨k,9,none⟩ (.int .i64 (zaM s).2.2)=wc at *
  have dc:=chg4 wc z (.int .i64 op) (.slice R5 k5 f5) (.int .i64 ht) (.bool dd)
  have d1:=blk2 dc c1 hkz
  have dz:=store4 cz (.int .i64 op) (.slice R5 k5 f5) (.int .i64 ht) (.bool dd)
  have ds:=size4 wc z (.int .i64 op) (.slice R5 k5 f5) (.int .i64 ht) (.bool dd)
  have dr:=rowB_chg cr (no8_ctl cz (by intro x;simp) (by intro x;simp) (by intro x;simp) (by intro x;simp)) dc (Nat.le_of_eq ds.symm)
  have do_:((((wc.setCell ⟨z,0,none⟩ (.int .i64 op)).setCell ⟨z,1,none⟩ (.slice R5 k5 f5)).setCell ⟨z,2,none⟩ (.int .i64 ht)).setCell ⟨z,3,none⟩ (.bool dd)).os=wc.os/\((((wc.setCell ⟨z,0,none⟩ (.int .i64 op)).setCell ⟨z,1,none⟩ (.slice R5 k5 f5)).setCell ⟨z,2,none⟩ (.int .i64 ht)).setCell ⟨z,3,none⟩ (.bool dd)).tape=wc.tape/\((((wc.setCell ⟨z,0,none⟩ (.int .i64 op)).setCell ⟨z,1,none⟩ (.slice R5 k5 f5)).setCell ⟨z,2,none⟩ (.int .i64 ht)).setCell ⟨z,3,none⟩ (.bool dd)).output=wc.output:=⟨rfl,rfl,rfl⟩
  generalize (((wc.setCell ⟨z,0,none⟩ (.int .i64 op)).setCell ⟨z,1,none⟩ (.slice R5 k5 f5)).setCell ⟨z,2,none⟩ (.int .i64 ht)).setCell ⟨z,3,none⟩ (.bool dd)=wd at *
  obtain⟨z0,z1,z2,z3⟩:=cells4 dz
  have hall:∀j,j<w1.heap.size->j≠k->j≠z->wd.heap[j]? = w1.heap[j]?:=fun j hj h1 h2=>by
   have e1:=ab.size
   have e2:=cb.size
   rw[dc j (by omega) (fun e=>h2 (Option.some.inj e)),cb.block j (by omega) h1,bc j (by omega) (fun e=>h2 (Option.some.inj e)),ab.block j hj h1]
  have hsz:w1.heap.size<=wd.heap.size:=by have e1:=ab.size;have e2:=cb.size;omega
  have HBD:But k w wd:=⟨(do_.1.trans (cb.os.trans (bo.1.trans ab.os))).trans (HB1.out.os.trans HB0.out.os),(do_.2.1.trans (cb.tape.trans (bo.2.1.trans ab.tape))).trans (HB1.out.tape.trans HB0.out.tape),(do_.2.2.trans (cb.output.trans (bo.2.2.trans ab.output))).trans (HB1.out.output.trans HB0.out.output),Nat.le_trans HB0.out.size (Nat.le_trans HB1.out.size hsz),fun j hj h1=>by
   have h2:j<w0.heap.size:=Nat.lt_of_lt_of_le hj HB0.out.size
   rw[hall j (Nat.lt_of_lt_of_le h2 HB1.out.size) h1 (by have:=HZW.out;omega),HB1.out.block j h2,HB0.out.block j hj]⟩
  exact jr (v:=.agg #[.int .i64 op,.slice R5 k5 f5,.int .i64 ht,.bool dd]) (by simp[results,Tryz.results151,go_sem,z0,z1,z2,z3]) rfl ⟨_,_,_,by rw[<- hop,<- hht,<- hdd];rfl,dr,HH.out.put HBD (by show wd.heap[k]? = some (ckObj V E (.slice P5 n5 c5) (.slice Q5 m5 d5) (ofP ((zaM s).1,(zaM s).2.2)).code);rw[ofP_code];exact d1) (fun s' hs'=>by obtain ⟨_,rfl⟩:=ofP_ok hs';exact HST.out wd (fun j h1 h2=>hall j h2 (by have:=HK0.out;omega) (by have:=HZ0.out;omega))) (fun e he=>ofP_ne he),HBD⟩
end Go.Proofs.YtlappkflnlbfcaaGreatDoor.Chk
