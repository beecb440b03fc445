import Derived.Test.YtlappkflnlbfcaaGreatDoorPkChkTk8
import Derived.Test.YtlappkflnlbfcaaGreatDoorPkChkStepP
import Derived.Test.YtlappkflnlbfcaaGreatDoorPkChkCutR
import Derived.Test.YtlappkflnlbfcaaGreatDoorPkBodFew
import Derived.Test.YtlappkflnlbfcaaGreatDoorPkInsStab
import Derived.Test.YtlappkflnlbfcaaGreatDoorPkStkRSane
import Derived.Test.YtlappkflnlbfcaaGreatDoorPkChkClose
import Derived.Test.YtlappkflnlbfcaaGreatDoorPkStkROpen
import Derived.Test.YtlappkflnlbfcaaGreatDoorPkStkRWant
namespace Go.Proofs.YtlappkflnlbfcaaGreatDoor.Chk
open Lib renaming hid → jq
open Go.RowKit Row9 Stk
set_option maxRecDepth 100000
set_option maxHeartbeats 1000000
set_option linter.unusedVariables false
theorem small_bd {E:EnvP}(h:smallE E=true):FnBd E/\E.globs.length<=1000/\E.results.length<=20:=by
 unfold smallE at h
 simp only[Bool.and_eq_true,decide_eq_true_eq,List.all_eq_true] at h
 obtain⟨⟨⟨⟨⟨h1,h2⟩,h3⟩,h4⟩,h5⟩,h6⟩:=h
 exact⟨⟨fun p hp=>by have:=h6 p hp;omega,by omega⟩,by omega,h5⟩
def PathV (R:List Stk×Int)(w:World)(P:Option Addr)(np cp:Nat):Prop:=(R.2=0->∃rows,Row elS w (.slice P np cp) rows/\rows.map (·.1)=R.1/\R.1.length=np)/\(R.2≠0->P=none/\np=0/\cp=0)
theorem PathV.keep {R:List Stk×Int}{w w':World}{P:Option Addr}{np cp:Nat}(h:PathV R w P np cp)(hb:Below w.heap.size w w'):PathV R w' P np cp:=
 ⟨fun h0=>by obtain ⟨rows,h1,h2,h3⟩:=h.1 h0;exact⟨rows,h1.keep hb,h2,h3⟩,h.2⟩
theorem pathV_any {w:World}{V:EV}{E:EnvP}{A:Option Addr}{n c:Nat}{l:List (Ins.Ins×Value)}(h0:EnvOk elGP w V E)(hr:Ins.InRow w (.slice A n c) l)(hK:Ins.KTab w)(hA:Ins.ATab w)(hF:FnBd E)(hln:l.length=n)(hn:n<=200):
  Calls Tryz.prog 21 #[evV V E,.slice A n c] w fun e w'=>∃P np cp,e= .returned (.tuple #[.slice P np cp,.int .i64 (pathR E (l.map (·.1))).2])/\PathV (pathR E (l.map (·.1))) w' P np cp/\Below w.heap.size w w':=by
 refine(path_any h0 hr hK hA hF hln hn).mono ?_
 rintro e w' ⟨h,hb⟩
 by_cases hz:(pathR E (l.map (·.1))).2=0
 ·rw[if_pos hz] at h
  obtain⟨v,rows,rfl,h1,h2⟩:=h
  obtain⟨P,cp,rfl,_⟩:=h1.form
  refine⟨P,rows.length,cp,by rw[hz],⟨fun _=>⟨rows,h1,h2,by rw[<- h2,List.length_map]⟩,fun h=>absurd hz h⟩,hb⟩
 ·rw[if_neg hz] at h
  exact⟨none,0,0,h,⟨fun h=>absurd h hz,fun _=>⟨rfl,rfl,rfl⟩⟩,hb⟩
theorem stk_at {w:World}{P:Option Addr}{n c:Nat}{rows:List StV}{R:List Stk}(h:Row elS w (.slice P n c) rows)(hm:rows.map (·.1)=R){k:Nat}{a:Stk}(hk:R[k]? = some a):
  ∃g off Pv cv Pc cc lc,P=some ⟨g,off,none⟩/\g<w.heap.size/\w.cell? ⟨g,off+k*2,none⟩=some (.slice Pv a.vals.length cv)/\w.cell? ⟨g,off+k*2+1,none⟩=some (.slice Pc a.cs.length cc)/\Row elB w (.slice Pv a.vals.length cv) a.vals/\Row elP w (.slice Pc a.cs.length cc) lc/\lc.map (·.1)=a.cs:=by
 rw[<- hm,List.getElem?_map] at hk
 cases hp:rows[k]? with
 | none=>rw[hp] at hk;cases hk
 | some p=>
  rw[hp] at hk
  obtain rfl:=Option.some.inj hk
  obtain⟨g,off,e,hg,hC,hO⟩:=h.at_ hp
  obtain⟨va,vc,lc,e2,h1,h2,h3⟩:=hO
  have c0:w.cell? ⟨g,off+k*2,none⟩=some p.2.1:=hC 0 _ rfl
  have c1:w.cell? ⟨g,off+k*2+1,none⟩=some p.2.2:=hC 1 _ rfl
  injection e2 with e2
  have e2:=congrArg Array.toList e2
  simp only[List.cons.injEq,and_true] at e2
  obtain⟨e3,e4⟩:=e2
  rw[e3] at c0
  rw[e4] at c1
  obtain⟨Pv,cv,rfl,_⟩:=h1.form
  obtain⟨Pc,cc,e5,_⟩:=h2.form
  have hl:lc.length=p.1.cs.length:=by rw[<- h3,List.length_map]
  rw[hl] at e5
  subst e5
  exact⟨g,off,Pv,cv,Pc,cc,lc,e,hg,c0,c1,h1,h2,h3⟩
theorem stk_is {w:World}{Pv Pc:Option Addr}{cv cc:Nat}{a:Stk}{lc:List CtV}(h1:Row elB w (.slice Pv a.vals.length cv) a.vals)(h2:Row elP w (.slice Pc a.cs.length cc) lc)(h3:lc.map (·.1)=a.cs):StIs elP w (.agg #[.slice Pv a.vals.length cv,.slice Pc a.cs.length cc]) a:=⟨_,_,lc,rfl,h1,h2,h3⟩
theorem cells7b {w:World}{y:Nat}{a b c d e f g:Value}{t:TypeId}(h:w.heap[y]? = some (.cells #[a,b,c,d,e,f,g] t (0,0))):w.cell? ⟨y,0,none⟩=some a/\w.cell? ⟨y,1,none⟩=some b/\w.cell? ⟨y,2,none⟩=some c/\w.cell? ⟨y,3,none⟩=some d/\w.cell? ⟨y,4,none⟩=some e/\w.cell? ⟨y,5,none⟩=some f/\w.cell? ⟨y,6,none⟩=some g:=
 ⟨(zaA h 0).1,(zaA h 1).1,(zaA h 2).1,(zaA h 3).1,(zaA h 4).1,(zaA h 5).1,(zaA h 6).1⟩
def EnvC:Prop:=∀ (w:World)(V:EV)(E:EnvP),EnvOk elGD w V E->E.globs.length<=1000->Calls Tryz.prog 13 #[evV V E] w fun e w'=>(∃V1,e= .returned (evV V1 E)/\EnvOk elGP w' V1 E)/\Below w.heap.size w w'
end Go.Proofs.YtlappkflnlbfcaaGreatDoor.Chk
namespace Go.Proofs.YtlappkflnlbfcaaGreatDoor.Chk
open Lib renaming hid → jq
open Go.RowKit Row9 Stk
set_option maxRecDepth 100000
set_option maxHeartbeats 1000000
set_option linter.unusedVariables false
section
open Stab
variable {P:Program} {ops:Array Oper} {w0:World} {a0:Act} {env:List (Tmp×Sp)} {o:Oper}
theorem owes_extF {x:Operand}{i:Nat}{R R':Value->World->Prop}(ho:o.op= .extract x i)(hx:evalS a0 env x= .fits R)(hr:∀v W,R v W->∃c,(Instr.extract v i).run P W= .ok c W/\R' c W)(hw:wantB ops a0 env o=true):Owes P ops w0 a0 env o (.fits R'):=
 owes_run hw fun ρ w _ hρ=>by
  have h1:=hρ x (by simp[ho,Op.operands])
  rw[hx] at h1
  have h1:R (ρ x) w:=h1
  obtain⟨c,h2,h3⟩:=hr _ _ h1
  simp only[execOp,ho,Sem.run_bind]
  rw[h2]
  exact⟨Below.refl _ _,h3⟩
theorem owes_extI {x:Operand}{i:Nat}{R:Value->World->Prop}{c:Value}(ho:o.op= .extract x i)(hx:evalS a0 env x= .fits R)(hr:∀v W,R v W->(Instr.extract v i).run P W= .ok c W)(hw:wantB ops a0 env o=true):Owes P ops w0 a0 env o (.is c):=
 owes_run hw fun ρ w _ hρ=>by
  have h1:=hρ x (by simp[ho,Op.operands])
  rw[hx] at h1
  have h1:R (ρ x) w:=h1
  simp only[execOp,ho,Sem.run_bind]
  rw[hr _ _ h1]
  exact⟨Below.refl _ _,rfl⟩
end
theorem run_ext0 {P:Program}{a b:Value}(W:World):(Instr.extract (.tuple #[a,b]) 0).run P W= .ok a W:=by go_simp
theorem run_ext1 {P:Program}{a b:Value}(W:World):(Instr.extract (.tuple #[a,b]) 1).run P W= .ok b W:=by go_simp
theorem run_idxSt {g o n c k q:Nat}(W:World)(h:k<n)(hq:o+k*2=q):(Instr.indexAt 60 (.slice (some ⟨g,o,none⟩) n c) (.int .i64 (k:Int))).run Tryz.prog W= .ok (.pointer (some ⟨g,q,none⟩)) W:=by
 have h1:(0:Int)<=(k:Int):=by omega
 have h2:(k:Int)<(n:Int):=by omega
 go_simp
theorem run_idxIn {g o n c k q:Nat}(W:World)(h:k<n)(hq:o+k*5=q):(Instr.indexAt 58 (.slice (some ⟨g,o,none⟩) n c) (.int .i64 (k:Int))).run Tryz.prog W= .ok (.pointer (some ⟨g,q,none⟩)) W:=by
 have h1:(0:Int)<=(k:Int):=by omega
 have h2:(k:Int)<(n:Int):=by omega
 go_simp
theorem run_ldBy {A:Option Addr}{n c g o:Nat}{W:World}(h:W.cell? ⟨g,o,none⟩=some (.slice A n c)):(Instr.loadAt 25 (.pointer (some ⟨g,o,none⟩))).run Tryz.prog W= .ok (.slice A n c) W:=by go_simp
theorem run_ldSt {a b:Value}{g q:Nat}{W:World}(h0:W.cell? ⟨g,q,none⟩=some a)(h1:W.cell? ⟨g,q+1,none⟩=some b):(Instr.loadAt 39 (.pointer (some ⟨g,q,none⟩))).run Tryz.prog W= .ok (.agg #[a,b]) W:=by go_simp
theorem run_ldIn {a b c d e:Value}{g q:Nat}{W:World}(h0:W.cell? ⟨g,q,none⟩=some a)(h1:W.cell? ⟨g,q+1,none⟩=some b)(h2:W.cell? ⟨g,q+2,none⟩=some c)(h3:W.cell? ⟨g,q+3,none⟩=some d)(h4:W.cell? ⟨g,q+4,none⟩=some e):(Instr.loadAt 33 (.pointer (some ⟨g,q,none⟩))).run Tryz.prog W= .ok (.agg #[a,b,c,d,e]) W:=by go_simp
theorem run_ldEn {a b c d e f g:Value}{x:Nat}{W:World}(h:W.heap[x]? = some (.cells #[a,b,c,d,e,f,g] 27 (0,0))):(Instr.loadAt 27 (.pointer (some ⟨x,0,none⟩))).run Tryz.prog W= .ok (.agg #[a,b,c,d,e,f,g]) W:=by
 obtain⟨a0,a1,a2,a3,a4,a5,a6⟩:=cells7b h
 go_simp
theorem run_lenSt (A:Option Addr)(n c:Nat)(ty:TypeId)(W:World):(Builtin.len_ #[60] ty #[.slice A n c]).run Tryz.prog W= .ok (.int .i64 (n:Int)) W:=by go_simp
theorem run_eqSS (x y:Operand)(s:ByteArray)(W:World):(do eqGuard BinOp.eql 9 x y (.string s) (.string s);binOp BinOp.eql 9 (.string s) (.string s):Sem Value).run Tryz.prog W= .ok (.bool true) W:=by go_simp
end Go.Proofs.YtlappkflnlbfcaaGreatDoor.Chk
namespace Go.Proofs.YtlappkflnlbfcaaGreatDoor.Chk
open Lib renaming hid → jq
open Go.RowKit Row9 Stk
set_option maxRecDepth 100000
set_option maxHeartbeats 2000000
set_option linter.unusedVariables false
def wkObj (a b:Value)(e:Int):Obj:=.cells #[a,b,.int .i64 e] 86 (0,0)
theorem nobb_wk {w:World}{k:Nat}{P Q:Option Addr}{n c m d:Nat}{e:Int}(h:w.heap[k]? = some (wkObj (.slice P n c) (.slice Q m d) e)):NoBB w k:=by
 refine nobb_of h ?_
 intro u hu
 simp only[List.mem_cons,List.not_mem_nil,or_false] at hu
 rcases hu with rfl | rfl | rfl <;> exact ⟨fun x=>by simp,fun b=>by simp⟩
theorem row_apartW {α:Type}{T:El α}{w w':World}{z:Nat}{v:Value}{l:List α}(hT:∀a,∃ (i:Nat) (u:Value),(T.enc a)[i]? = some u/\((∃x,u= .int .u8 x)\/∃b,u= .bool b))(hok:∀p∈l,T.ok w p->T.ok w' p)(h:Row T w v l)(hz:NoBB w z)(hsz:w.heap.size<=w'.heap.size)(hc:∀j,j<w.heap.size->j≠z->w'.heap[j]? = w.heap[j]?):Row T w' v l:=by
 obtain⟨⟨B,d,h1,h2,h3,h4⟩,h5⟩:=h
 refine⟨⟨B,d,h1,h2,h3,fun h0=>?_⟩,fun p hp=>hok p hp (h5 p hp)⟩
 obtain⟨g,off,e,hg,hB⟩:=h4 h0
 have hgz:g≠z:=by
  intro e
  subst e
  obtain⟨p,hp⟩:∃p,l[0]? = some p:=by
   cases l with
   | nil=>exact absurd rfl h0
   | cons p l=>exact ⟨p,rfl⟩
  obtain⟨i,u,hu,hx⟩:=hT p
  have h6:=hB 0 p hp i u hu
  rcases hx with ⟨x,rfl⟩ | ⟨b,rfl⟩
  ·exact (hz _).1 _ h6
  ·exact (hz _).2 _ h6
 refine⟨g,off,e,Nat.lt_of_lt_of_le hg hsz,fun j p hj i' u' hu=>?_⟩
 have h6:=hB j p hj i' u' hu
 have h7:=hc g hg hgz
 simp only[World.cell?] at h6 ⊢
 rw[h7]
 exact h6
theorem rowB_apartW {w w':World}{z:Nat}{v:Value}{l:List Int}(h:Row elB w v l)(hz:NoBB w z)(hsz:w.heap.size<=w'.heap.size)(hc:∀j,j<w.heap.size->j≠z->w'.heap[j]? = w.heap[j]?):Row elB w' v l:=
 row_apartW (T:=elB) (w:=w) (fun a=>⟨0,_,rfl,.inl ⟨a,rfl⟩⟩) (fun _ _ h=>h) h hz hsz hc
theorem StIs.apartW {e:TypeId}{hi}{w w':World}{z:Nat}{v:Value}{s:Stk}(h:StIs (elCt e hi) w v s)(hz:NoBB w z)(hsz:w.heap.size<=w'.heap.size)(hc:∀j,j<w.heap.size->j≠z->w'.heap[j]? = w.heap[j]?):StIs (elCt e hi) w' v s:=by
 obtain⟨a,b,l,h1,h2,h3,h4⟩:=h
 exact⟨a,b,l,h1,rowB_apartW h2 hz hsz hc,row_apartW (T:=elCt e hi) (fun a=>⟨3,_,rfl,.inr ⟨a.1.dead,rfl⟩⟩) (fun p _ hp=>⟨rowB_apartW hp.1 hz hsz hc,hp.2⟩) h3 hz hsz hc,h4⟩
abbrev oE (V:EV)(E:EnvP):Obj:=.cells #[.slice V.Pt V.nt V.ct,.slice V.Pf V.nf V.cf,.int .i64 E.tables,.int .i64 E.mems,.slice V.Pg V.ng V.cg,.slice V.Pl V.nl V.cl,.slice V.Pr V.nr V.cr] 27
abbrev oS (P:Option Addr)(n c:Nat)(Q:Option Addr)(m d:Nat):Obj:=.cells #[.slice P n c,.slice Q m d] 30
abbrev oI (op A B K:Int)(v:Value):Obj:=.cells #[.int .i64 op,.int .i64 A,.int .i64 B,.int .u64 K,v] 33
theorem four {w:World}(a b c d:Obj):Below w.heap.size w ((((w.alloc a).alloc b).alloc c).alloc d)/\((((w.alloc a).alloc b).alloc c).alloc d).heap[w.heap.size]? = some a/\((((w.alloc a).alloc b).alloc c).alloc d).heap[w.heap.size+1]? = some b/\((((w.alloc a).alloc b).alloc c).alloc d).heap[w.heap.size+2]? = some c/\((((w.alloc a).alloc b).alloc c).alloc d).heap[w.heap.size+3]? = some d:=by
 have h1:=zaB w a
 have h2:=zaB (w.alloc a) b
 have h3:=zaB ((w.alloc a).alloc b) c
 have h4:=zaB (((w.alloc a).alloc b).alloc c) d
 have e2:=zaC (w.alloc a) b
 have e3:=zaC ((w.alloc a).alloc b) c
 have e4:=zaC (((w.alloc a).alloc b).alloc c) d
 rw[zaD] at e2
 rw[zaD,zaD] at e3
 rw[zaD,zaD,zaD] at e4
 exact⟨below4 w a b c d,blk (blk (blk (zaC w a) h2) h3) h4,blk (blk e2 h3) h4,blk e3 h4,e4⟩
structure Cw (w:World) (k:Nat) (x:Rs) (z:Nat):Prop where
 ck:∃P n c Q m d s,w.heap[k]? = some (wkObj (.slice P n c) (.slice Q m d) x.code)/\StIs elD w (.agg #[.slice P n c,.slice Q m d]) s/\sane s=true/\s.vals.length<=z/\s.cs.length<=z/\∀t,x= .ok t->t=s
 ne:∀e,x= .er e->e≠0
theorem Cw.lt {w:World}{k:Nat}{x:Rs}{z:Nat}(h:Cw w k x z):k<w.heap.size:=by
 obtain⟨⟨P,n,c,Q,m,d,s,h1,_⟩,_⟩:=h
 exact jl h1
theorem Cw.keep {w w':World}{k:Nat}{x:Rs}{z:Nat}(h:Cw w k x z)(hb:Below w.heap.size w w'):Cw w' k x z:=by
 obtain⟨⟨P,n,c,Q,m,d,s,h1,h2,h3⟩,h4⟩:=h
 exact⟨⟨P,n,c,Q,m,d,s,blk h1 hb,h2.keep hb,h3⟩,h4⟩
theorem Cw.mono {w:World}{k:Nat}{x:Rs}{z z':Nat}(h:Cw w k x z)(hz:z<=z'):Cw w k x z':=by
 obtain⟨⟨P,n,c,Q,m,d,s,h1,h2,h3,h4,h5,h6⟩,h7⟩:=h
 exact⟨⟨P,n,c,Q,m,d,s,h1,h2,h3,by omega,by omega,h6⟩,h7⟩
theorem Cw.nobb {w:World}{k:Nat}{x:Rs}{z:Nat}(h:Cw w k x z):NoBB w k:=by
 obtain⟨⟨P,n,c,Q,m,d,s,h1,_⟩,_⟩:=h
 exact nobb_wk h1
theorem cells3 {w:World}{k:Nat}{a b:Value}{e:Int}(h:w.heap[k]? = some (wkObj a b e)):w.cell? ⟨k,0,none⟩=some a/\w.cell? ⟨k,1,none⟩=some b/\w.cell? ⟨k,2,none⟩=some (.int .i64 e)/\w.frozen? ⟨k,0,none⟩=false/\w.frozen? ⟨k,1,none⟩=false/\w.frozen? ⟨k,2,none⟩=false:=
 ⟨(zaA h 0).1,(zaA h 1).1,(zaA h 2).1,(zaA h 0).2,(zaA h 1).2,(zaA h 2).2⟩
theorem set3e {w:World}{k:Nat}{a b:Value}{e:Int}(h:w.heap[k]? = some (wkObj a b e))(e':Int):(w.setCell ⟨k,2,none⟩ (.int .i64 e')).heap[k]? = some (wkObj a b e'):=by
 unfold wkObj at h
 rw[zaE h]
 rfl
theorem set3 {w:World}{k:Nat}{a b:Value}{e:Int}(h:w.heap[k]? = some (wkObj a b e))(a' b':Value)(e':Int):(((w.setCell ⟨k,2,none⟩ (.int .i64 e')).setCell ⟨k,0,none⟩ a').setCell ⟨k,1,none⟩ b').heap[k]? = some (wkObj a' b' e'):=by
 unfold wkObj at h
 rw[zaE (zaE (zaE h _) _)]
 rfl
theorem cells2s' {w:World}{y:Nat}{a b:Value}{t:TypeId}(h:w.heap[y]? = some (.cells #[a,b] t (0,0))):w.cell? ⟨y,0,none⟩=some a/\w.cell? ⟨y,1,none⟩=some b/\w.frozen? ⟨y,0,none⟩=false/\w.frozen? ⟨y,1,none⟩=false:=
 ⟨(zaA h 0).1,(zaA h 1).1,(zaA h 0).2,(zaA h 1).2⟩
def CwEnds (w:World)(k:Nat)(x:Rs)(z:Nat)(r:Value)(e:Ending)(w':World):Prop:=e= .returned r/\Cw w' k x z/\But k w w'
def putR (r:Stk×Int)(x:Rs):Rs:=x.bind fun _=>ofP r
theorem Cw.stored {w:World}{k:Nat}{t S:Stk}{z:Nat}{Pv Qv:Option Addr}{nv cv mv dv:Nat}(h:Cw w k (.ok t) z)(hv:StIs elD w (.agg #[.slice Pv nv cv,.slice Qv mv dv]) S)(hs:sane S=true/\S.vals.length<=z/\S.cs.length<=z):
  Cw (((w.setCell ⟨k,2,none⟩ (.int .i64 0)).setCell ⟨k,0,none⟩ (.slice Pv nv cv)).setCell ⟨k,1,none⟩ (.slice Qv mv dv)) k (.ok S) z/\But k w (((w.setCell ⟨k,2,none⟩ (.int .i64 0)).setCell ⟨k,0,none⟩ (.slice Pv nv cv)).setCell ⟨k,1,none⟩ (.slice Qv mv dv)):=by
 obtain⟨⟨P,n,c,Q,m,d,s,h1,h2,h3,h4,h5,h6⟩,h7⟩:=h
 have hbt:But k w (((w.setCell ⟨k,2,none⟩ (.int .i64 0)).setCell ⟨k,0,none⟩ (.slice Pv nv cv)).setCell ⟨k,1,none⟩ (.slice Qv mv dv)):=(((But.refl k w).setCell 2 _).setCell 0 _).setCell 1 _
 exact⟨⟨⟨Pv,nv,cv,Qv,mv,dv,S,set3 h1 _ _ 0,StIs.apart (e:=76) (hi:=infoD) hv (nobb_wk h1) hbt,hs.1,hs.2.1,hs.2.2,fun t ht=>by injection ht with ht;exact ht.symm⟩,fun e he=>by cases he⟩,hbt⟩
theorem Cw.fault {w:World}{k:Nat}{x:Rs}{z:Nat}{e:Int}(h:Cw w k x z)(he:e≠0):Cw (w.setCell ⟨k,2,none⟩ (.int .i64 e)) k (.er e) z/\But k w (w.setCell ⟨k,2,none⟩ (.int .i64 e)):=by
 obtain⟨⟨P,n,c,Q,m,d,s,h1,h2,h3,h4,h5,h6⟩,h7⟩:=h
 have hbt:But k w (w.setCell ⟨k,2,none⟩ (.int .i64 e)):=(But.refl k w).setCell 2 _
 exact⟨⟨⟨P,n,c,Q,m,d,s,set3e h1 e,StIs.apart (e:=76) (hi:=infoD) h2 (nobb_wk h1) hbt,h3,h4,h5,fun t ht=>by cases ht⟩,fun e' he'=>by injection he' with he';rw[<- he'];exact he⟩,hbt⟩
def PutW (x:Rs)(e:Int)(w:World)(k:Nat)(a b:Value)(w':World):Prop:=(∃c,x= .er c/\w'=w)\/(∃t,x= .ok t/\e≠0/\w'=w.setCell ⟨k,2,none⟩ (.int .i64 e))\/(∃t,x= .ok t/\e=0/\w'=((w.setCell ⟨k,2,none⟩ (.int .i64 0)).setCell ⟨k,0,none⟩ a).setCell ⟨k,1,none⟩ b)
theorem put_core {w:World}{k:Nat}{x:Rs}{Pv Qv P Q:Option Addr}{nv cv mv dv n c m d:Nat}{e:Int}(hne:∀f,x= .er f->f≠0)(h:w.heap[k]? = some (wkObj (.slice P n c) (.slice Q m d) x.code)):Calls Tryz.prog 67 #[.pointer (some ⟨k,0,none⟩),.agg #[.slice Pv nv cv,.slice Qv mv dv],.int .i64 e] w fun en w'=>en= .returned (.tuple #[])/\PutW x e (w.alloc (.cells #[.slice Pv nv cv,.slice Qv mv dv] 30)) k (.slice Pv nv cv) (.slice Qv mv dv) w':=by
 have HBN:=jq (zaB w (.cells #[.slice Pv nv cv,.slice Qv mv dv] 30))
 have HX:=jq (zaC w (.cells #[.slice Pv nv cv,.slice Qv mv dv] 30))
 have H1:=jq (blk h HBN.out)
 have HNE:=jq hne
 have hkl:k<(w.alloc (.cells #[.slice Pv nv cv,.slice Qv mv dv] 30)).heap.size:=jl H1.out
 obtain⟨x0,x1,f0,f1⟩:=cells2s' HX.out
 have hyl:=jl HX.out
 obtain⟨c0,c1,c2,p0,p1,p2⟩:=cells3 H1.out
 clear h hne
 cases x with
 | er f=>
  have t1:(f != 0)=true:=by simpa using HNE.out f rfl
  have t1':(f == 0)=false:=by simpa using HNE.out f rfl
  simp only[Rs.code] at c2
  go_enter Tryz.func67,Tryz.ntmps67
  go_wp2_with fail
  exact bodyPost_ret (v:=.tuple #[]) (by simp[results,Tryz.results67,go_sem]) rfl ⟨rfl,.inl ⟨_,rfl,rfl⟩⟩
 | ok t=>
  simp only[Rs.code] at c2 H1
  by_cases he:e=0
  ·subst he
   go_enter Tryz.func67,Tryz.ntmps67
   go_wp2_with fail
   exact bodyPost_end (v:=.tuple #[]) (by simp[results,Tryz.results67,go_sem]) rfl ⟨rfl,.inr (.inr ⟨_,rfl,rfl,rfl⟩)⟩
  ·have t1:(e == 0)=false:=by simpa using he
   go_enter Tryz.func67,Tryz.ntmps67
   go_wp2_with fail
   exact bodyPost_end (v:=.tuple #[]) (by simp[results,Tryz.results67,go_sem]) rfl ⟨rfl,.inr (.inl ⟨_,rfl,he,rfl⟩)⟩
theorem put_wk {w:World}{k:Nat}{x:Rs}{z:Nat}{v:Value}{r:Stk×Int}(h:Cw w k x z)(hv:StIs elD w v r.1)(hs:r.2=0->sane r.1=true/\r.1.vals.length<=z/\r.1.cs.length<=z):Calls Tryz.prog 67 #[.pointer (some ⟨k,0,none⟩),v,.int .i64 r.2] w (CwEnds w k (putR r x) z (.tuple #[])):=by
 obtain⟨Pv,nv,cv,Qv,mv,dv,rfl⟩:=StIs.form (T:=elD) hv
 have hbn:=zaB w (.cells #[.slice Pv nv cv,.slice Qv mv dv] 30)
 obtain⟨P,n,c,Q,m,d,s,h1,_⟩:=h.ck
 refine(put_core (e:=r.2) h.ne h1).mono ?_
 rintro en w' ⟨rfl,h2⟩
 have hk:=h.keep hbn
 have hvk:=hv.keep hbn
 have hbt:But k w (w.alloc (.cells #[.slice Pv nv cv,.slice Qv mv dv] 30)):=But.of_below hbn
 rcases h2 with ⟨f,rfl,rfl⟩ | ⟨t,rfl,he,rfl⟩ | ⟨t,rfl,he,rfl⟩
 ·exact ⟨rfl,hk,hbt⟩
 ·obtain ⟨hc,hb2⟩:=Cw.fault hk he
  exact⟨rfl,by unfold putR Rs.bind ofP;simp only;rw[if_neg he];exact hc,hbt.trans hb2⟩
 ·obtain ⟨hc,hb2⟩:=Cw.stored hk hvk (hs he)
  exact⟨rfl,by unfold putR Rs.bind ofP;simp only;rw[if_pos he];exact hc,hbt.trans hb2⟩
def Apt (y k:Nat)(w:World)(v:Value)(s:Stk):Prop:=∀W:World,w.heap.size<=W.heap.size->(∀j,j<w.heap.size->j≠y->j≠k->W.heap[j]? = w.heap[j]?)->StIs elD W v s
theorem Apt.but {y k:Nat}{w w':World}{v:Value}{s:Stk}(h:Apt y k w v s)(hb:But k w w'):Apt y k w' v s:=fun W h1 h2=>h W (Nat.le_trans hb.size h1) fun j hj hy hk=>(h2 j (Nat.lt_of_lt_of_le hj hb.size) hy hk).trans (hb.block j hj hk)
structure CwA (y:Nat) (w:World) (k:Nat) (x:Rs) (z:Nat):Prop where
 ck:∃P n c Q m d s,w.heap[k]? = some (wkObj (.slice P n c) (.slice Q m d) x.code)/\Apt y k w (.agg #[.slice P n c,.slice Q m d]) s/\sane s=true/\s.vals.length<=z/\s.cs.length<=z/\∀t,x= .ok t->t=s
 ne:∀e,x= .er e->e≠0
theorem CwA.keep {y:Nat}{w w':World}{k:Nat}{x:Rs}{z:Nat}(h:CwA y w k x z)(hb:Below w.heap.size w w'):CwA y w' k x z:=by
 obtain⟨⟨P,n,c,Q,m,d,s,h1,h2,h3⟩,h4⟩:=h
 exact⟨⟨P,n,c,Q,m,d,s,blk h1 hb,h2.but (But.of_below hb),h3⟩,h4⟩
theorem put_apt {y:Nat}{w:World}{k:Nat}{x:Rs}{z:Nat}{Pv Qv:Option Addr}{nv cv mv dv:Nat}{r:Stk×Int}(h:CwA y w k x z)(hv:Apt y k w (.agg #[.slice Pv nv cv,.slice Qv mv dv]) r.1)(hs:r.2=0->sane r.1=true/\r.1.vals.length<=z/\r.1.cs.length<=z):Calls Tryz.prog 67 #[.pointer (some ⟨k,0,none⟩),.agg #[.slice Pv nv cv,.slice Qv mv dv],.int .i64 r.2] w fun en w'=>en= .returned (.tuple #[])/\CwA y w' k (putR r x) z/\But k w w':=by
 have hbn:=zaB w (.cells #[.slice Pv nv cv,.slice Qv mv dv] 30)
 obtain⟨P,n,c,Q,m,d,s,h1,_⟩:=h.ck
 refine(put_core (e:=r.2) h.ne h1).mono ?_
 rintro en w' ⟨rfl,h2⟩
 have hk:=h.keep hbn
 have hvk:=hv.but (But.of_below hbn)
 have hbt:But k w (w.alloc (.cells #[.slice Pv nv cv,.slice Qv mv dv] 30)):=But.of_below hbn
 generalize w.alloc (.cells #[.slice Pv nv cv,.slice Qv mv dv] 30)=wb at *
 obtain⟨⟨P,n,c,Q,m,d,s,h1,h3,h4,h5,h6,h7⟩,h8⟩:=hk
 rcases h2 with ⟨f,rfl,rfl⟩ | ⟨t,rfl,he,rfl⟩ | ⟨t,rfl,he,rfl⟩
 ·exact ⟨rfl,⟨⟨P,n,c,Q,m,d,s,h1,h3,h4,h5,h6,h7⟩,h8⟩,hbt⟩
 ·have hb2:But k wb (wb.setCell ⟨k,2,none⟩ (.int .i64 r.2)):=(But.refl k wb).setCell 2 _
  refine⟨rfl,?_,hbt.trans hb2⟩
  unfold putR Rs.bind ofP
  simp only
  rw[if_neg he]
  exact⟨⟨P,n,c,Q,m,d,s,set3e h1 _,h3.but hb2,h4,h5,h6,fun t ht=>by cases ht⟩,fun e' he'=>by injection he' with he';rw[<- he'];exact he⟩
 ·have hb2:But k wb (((wb.setCell ⟨k,2,none⟩ (.int .i64 0)).setCell ⟨k,0,none⟩ (.slice Pv nv cv)).setCell ⟨k,1,none⟩ (.slice Qv mv dv)):=(((But.refl k wb).setCell 2 _).setCell 0 _).setCell 1 _
  refine⟨rfl,?_,hbt.trans hb2⟩
  unfold putR Rs.bind ofP
  simp only
  rw[if_pos he]
  obtain⟨g1,g2,g3⟩:=hs he
  exact⟨⟨Pv,nv,cv,Qv,mv,dv,r.1,set3 h1 _ _ 0,hvk.but hb2,g1,g2,g3,fun t ht=>by injection ht with ht;exact ht.symm⟩,fun e he=>by cases he⟩
theorem CwA.at_ {y:Nat}{w W:World}{k:Nat}{x:Rs}{z:Nat}(h:CwA y w k x z)(hyk:y≠k)(hb:But y w W):Cw W k x z:=by
 obtain⟨⟨P,n,c,Q,m,d,s,h1,h3,h4⟩,h8⟩:=h
 exact⟨⟨P,n,c,Q,m,d,s,(hb.block k (jl h1) (Ne.symm hyk)).trans h1,h3 W hb.size fun j hj hy _=>hb.block j hj hy,h4⟩,h8⟩
theorem Cw.apt {y:Nat}{w w':World}{k:Nat}{x:Rs}{z:Nat}(h:Cw w k x z)(hb:Below w.heap.size w w')(hy:w.heap.size<=y):CwA y w' k x z:=by
 obtain⟨⟨P,n,c,Q,m,d,s,h1,h2,h3⟩,h8⟩:=h
 refine⟨⟨P,n,c,Q,m,d,s,blk h1 hb,fun W h4 h5=>?_,h3⟩,h8⟩
 exact StIs.apartW (e:=76) (hi:=infoD) h2 (nobb_wk h1) (Nat.le_trans hb.size h4) fun j hj hk=>(h5 j (Nat.lt_of_lt_of_le hj hb.size) (by omega) hk).trans (hb.block j hj)
end Go.Proofs.YtlappkflnlbfcaaGreatDoor.Chk
