import Derived.Test.YtlappkflnlbfcaaGreatDoorPkChkPath
import Derived.Test.YtlappkflnlbfcaaGreatDoorPkStkPlain
import Derived.Test.YtlappkflnlbfcaaGreatDoorPkBodApp
import Derived.Test.YtlappkflnlbfcaaGreatDoorPkBodNested
import Derived.WalkMore
import Derived.Test.YtlappkflnlbfcaaGreatDoorPkChkStepP
namespace Go.Proofs.YtlappkflnlbfcaaGreatDoor.Chk
open Go.RowKit Row9 Stk
set_option maxRecDepth 100000
set_option maxHeartbeats 1000000
set_option linter.unusedVariables false
def OkS (x:Rs):Prop:=∀s,x= .ok s->sane s=true
theorem OkS.act {x:Rs}{f:Stk->Stk×Int}{a:Act9}(h:OkS x)(hf:∀t,f t=Stk.act t a):OkS (x.bind fun s=>ofP (f s)):=fun s hs=>by
 obtain⟨t,rfl,h2⟩:=bind_ok hs
 obtain⟨h3,rfl⟩:=ofP_ok h2
 rw[hf] at h3 ⊢
 exact act_sane t a (h t rfl) h3
theorem OkS.push {x:Rs}{l:List Int}(h:OkS x):OkS (pushR l x):=h.act (a:=⟨0,0,l⟩) (f:=fun s=>pushS s l) fun t=>(act_push (s:=t) (a:=⟨0,0,l⟩) (.inl rfl)).symm
theorem OkS.want {x:Rs}{l:List Int}(h:OkS x):OkS (wantR l x):=h.act (a:=⟨3,0,l⟩) (f:=fun s=>wantS s l) fun t=>(act_want (s:=t) (a:=⟨3,0,l⟩) (.inl rfl)).symm
theorem OkS.pop {x:Rs}(h:OkS x):OkS (popR x):=h.act (a:=⟨2,0,[]⟩) (f:=fun s=>((popS s).1,(popS s).2.2)) fun t=>(act_pop rfl).symm
theorem OkS.open {x:Rs}{op:Int}{l:List Int}(h:OkS x):OkS (openR op l x):=h.act (a:=⟨5,op,l⟩) (f:=fun s=>openS s op l) fun t=>(act_open (s:=t) (a:=⟨5,op,l⟩) rfl).symm
theorem OkS.close {x:Rs}(h:OkS x):OkS (closeR x):=h.act (a:=⟨6,0,[]⟩) (f:=fun s=>((zaM s).1,(zaM s).2.2)) fun t=>(act_close rfl).symm
theorem OkS.kill {x:Rs}(h:OkS x):OkS (killR x):=h.act (a:=⟨7,0,[]⟩) fun t=>(act_kill rfl).symm
theorem OkS.need {x:Rs}{b:Bool}{e:Int}(h:OkS x):OkS (needR b e x):=fun s hs=>by
 obtain⟨t,rfl,h2⟩:=bind_ok hs
 split at h2
 ·injection h2 with h2
  subst h2
  exact h t rfl
 ·cases h2
theorem OkS.label {x:Rs}{i:Int}(h:OkS x):OkS (labelR i x):=fun s hs=>by
 obtain⟨t,rfl,h2⟩:=bind_ok hs
 split at h2
 ·injection h2 with h2
  subst h2
  exact h t rfl
 ·cases h2
theorem OkS.ite {c:Prop}[Decidable c]{x y:Rs}(h1:OkS x)(h2:OkS y):OkS (if c then x else y):=by
 split
 ·exact h1
 ·exact h2
theorem OkS.tab {l:List Int}:∀ (r:List Int) {x:Rs},OkS x->OkS (tabR l r x)
 | [],_,h=>h
 | _ :: r,_,h=>OkS.tab r h.label.need
theorem OkS.take {E:EnvP}{i:Ins.Ins}{s:Stk}(h:OkS (.ok s)):OkS (takeR E i s):=by
 unfold takeR
 refine OkS.ite ?_ (OkS.ite ?_ (OkS.ite ?_ (OkS.ite (OkS.tab _ h.label).want.want.kill (OkS.ite h.need.need.want.want.push (OkS.ite ?_ (OkS.ite ?_ (OkS.ite h.push h.push)))))))
 ·unfold plainR
  exact OkS.ite h.kill (OkS.ite h.push (OkS.ite h.need.close.open (OkS.ite h.need.close.need.push (OkS.ite h.want.kill (OkS.ite h.pop (OkS.ite h.want.pop.pop.need.push h.want.push))))))
 ·exact (OkS.ite h.want h).open
 ·unfold indexR
  refine OkS.ite h.label.want.kill (OkS.ite h.label.want.want.push (OkS.ite h.need.want.push (OkS.ite ?_ (OkS.ite h.need.push (OkS.ite h.need.need.want h)))))
  unfold localR
  exact OkS.ite (OkS.ite h.need h.need.want) (OkS.ite h.need h.need.want).push
 ·unfold accessR
  exact OkS.ite h.need.need.want h.need.need.want.push
 ·exact (OkS.ite h.need h.need.want).push
theorem instr_sane {E:EnvP}{i:Ins.Ins}{s t:Stk}(h:sane s=true)(ht:instrR E i s= .ok t):sane t=true:=by
 unfold instrR at ht
 split at ht
 ·cases ht
 ·exact OkS.take (s:=s) (fun s' hs=>by injection hs with hs;rw[<- hs];exact h) t ht
theorem go_len {E:EnvP}:∀ (l:List Ins.Ins) (s:Stk),(∃L,pathGo E l s=(L,0))->(∀i s e,instrR E i s= .er e->e≠0)->(pathGo E l s).1.length=l.length+1
 | [],s,_,_=>rfl
 | i :: l,s,⟨L,h⟩,hz=>by
  unfold pathGo at h ⊢
  cases hx:instrR E i s with
  | ok u=>
   rw[hx] at h
   simp only[Prod.mk.injEq] at h
   show ((pathGo E l u).1.length+1)=_
   rw[go_len l u ⟨_,Prod.ext rfl h.2⟩ hz]
   rfl
  | er e=>
   rw[hx] at h
   simp only[Prod.mk.injEq] at h
   exact absurd h.2 (hz i s e hx)
theorem s0_sane {E:EnvP}(h:saneE E=true):sane (s0 E)=true:=by
 have:=start_ok h
 exact(OkS.open (x:=.ok ⟨[],[]⟩) (op:=2) (l:=E.results) (fun s hs=>by injection hs with hs;rw[<- hs];rfl)) (s0 E) this
def Nz (x:Rs):Prop:=∀e,x= .er e->e≠0
theorem Nz.bind {x:Rs}{f:Stk->Rs}(h:Nz x)(hf:∀t,Nz (f t)):Nz (x.bind f):=fun e he=>by
 cases x with
 | ok t=>exact hf t e he
 | er c=>injection he with he;rw[<- he];exact h c rfl
theorem Nz.ofP (r:Stk×Int):Nz (ofP r):=fun e he=>ofP_ne he
theorem Nz.ok (s:Stk):Nz (.ok s):=fun e he=>nomatch he
theorem Nz.push {x:Rs}{l:List Int}(h:Nz x):Nz (pushR l x):=h.bind fun _=>Nz.ofP _
theorem Nz.want {x:Rs}{l:List Int}(h:Nz x):Nz (wantR l x):=h.bind fun _=>Nz.ofP _
theorem Nz.pop {x:Rs}(h:Nz x):Nz (popR x):=h.bind fun _=>Nz.ofP _
theorem Nz.open {x:Rs}{op:Int}{l:List Int}(h:Nz x):Nz (openR op l x):=h.bind fun _=>Nz.ofP _
theorem Nz.close {x:Rs}(h:Nz x):Nz (closeR x):=h.bind fun _=>Nz.ofP _
theorem Nz.kill {x:Rs}(h:Nz x):Nz (killR x):=h.bind fun _=>Nz.ofP _
theorem Nz.need {x:Rs}{b:Bool}{e:Int}(h:Nz x)(he:e≠0):Nz (needR b e x):=h.bind fun t c hc=>by
 split at hc
 ·cases hc
 ·injection hc with hc
  rw[<- hc]
  exact he
theorem Nz.label {x:Rs}{i:Int}(h:Nz x):Nz (labelR i x):=h.bind fun t c hc=>by
 split at hc
 ·cases hc
 ·injection hc with hc
  rw[<- hc]
  assumption
theorem Nz.ite {c:Prop}[Decidable c]{x y:Rs}(h1:Nz x)(h2:Nz y):Nz (if c then x else y):=by
 split
 ·exact h1
 ·exact h2
theorem Nz.tab {l:List Int}:∀ (r:List Int) {x:Rs},Nz x->Nz (tabR l r x)
 | [],_,h=>h
 | _ :: r,_,h=>Nz.tab r (h.label.need (by decide))
theorem Nz.take {E:EnvP}{i:Ins.Ins}{s:Stk}:Nz (takeR E i s):=by
 have h:=Nz.ok s
 have d5:(5:Int)≠0:=by decide
 have d6:(6:Int)≠0:=by decide
 unfold takeR
 refine Nz.ite ?_ (Nz.ite ?_ (Nz.ite ?_ (Nz.ite (Nz.tab _ h.label).want.want.kill (Nz.ite ((h.need d6).need d6).want.want.push (Nz.ite ?_ (Nz.ite ?_ (Nz.ite h.push h.push)))))))
 ·unfold plainR
  exact Nz.ite h.kill (Nz.ite h.push (Nz.ite (h.need d5).close.open (Nz.ite ((h.need d5).close.need d5).push (Nz.ite h.want.kill (Nz.ite h.pop (Nz.ite (h.want.pop.pop.need d5).push h.want.push))))))
 ·exact (Nz.ite h.want h).open
 ·unfold indexR
  refine Nz.ite h.label.want.kill (Nz.ite h.label.want.want.push (Nz.ite (h.need d6).want.push (Nz.ite ?_ (Nz.ite (h.need d6).push (Nz.ite ((h.need d6).need d5).want h)))))
  unfold localR
  exact Nz.ite (Nz.ite (h.need d6) (h.need d6).want) (Nz.ite (h.need d6) (h.need d6).want).push
 ·unfold accessR
  exact Nz.ite ((h.need d6).need d5).want ((h.need d6).need d5).want.push
 ·exact (Nz.ite (h.need d6) (h.need d6).want).push
theorem instr_nz {E:EnvP}(i:Ins.Ins)(s:Stk)(e:Int)(h:instrR E i s= .er e):e≠0:=by
 unfold instrR at h
 split at h
 ·injection h with h
  rw[<- h]
  decide
 ·exact Nz.take e h
theorem go_all {E:EnvP}{l:List Ins.Ins}{s:Stk}(h:(pathGo E l s).2=0):(pathGo E l s).1.length=l.length+1:=go_len l s ⟨_,Prod.ext rfl h⟩ instr_nz
theorem path_ok {E:EnvP}{l:List Ins.Ins}(h:(pathR E l).2=0):Bod.Nested (opsP l)/\saneE E=true/\pathR E l=pathGo E l (s0 E)/\(pathR E l).1.length=l.length+1:=by
 unfold pathR at h ⊢
 split at h
 ·exact absurd h (by decide)
 ·rename_i hd
  rw[if_neg hd]
  split at h
  ·exact absurd h (by decide)
  ·rename_i hs
   rw[if_neg hs]
   refine⟨?_,by simpa using hs,rfl,go_all h⟩
   cases hq:Bod.dM (opsP l) with
   | none=>exact absurd hq hd
   | some ms=>exact Bod.dM_nested hq
theorem go_bd {E:EnvP}(hE:FnBd E):∀ (l:List Ins.Ins) (s:Stk) (n:Nat),Bd (.ok s) n->∀t∈(pathGo E l s).1,Bd (.ok t) (n+l.length*1001)
 | [],s,n,h,t,ht=>by
  rw[List.mem_singleton.1 ht]
  exact h.mono (by omega)
 | i :: l,s,n,h,t,ht=>by
  unfold pathGo at ht
  cases hx:instrR E i s with
  | ok u=>
   rw[hx] at ht
   rcases List.mem_cons.1 ht with rfl | ht
   ·exact h.mono (by omega)
   ·have hu:Bd (.ok u) (n+1001):=by rw[<- hx];exact Bd.instr hE h
    exact(go_bd hE l u (n+1001) hu t ht).mono (by rw[List.length_cons,Nat.add_mul];omega)
  | er e=>
   rw[hx] at ht
   rw[List.mem_singleton.1 ht]
   exact h.mono (by omega)
end Go.Proofs.YtlappkflnlbfcaaGreatDoor.Chk
