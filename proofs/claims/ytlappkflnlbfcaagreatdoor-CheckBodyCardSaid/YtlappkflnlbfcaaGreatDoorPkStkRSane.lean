/- StkSame, StkTheirs, StkBk, StkCopied, StkRSane. -/
import Derived.Test.YtlappkflnlbfcaaGreatDoorPkStackDeadWalk
import Derived.Deep.RegionLaw
import Derived.ArgAppend
section
namespace Go.Proofs.YtlappkflnlbfcaaGreatDoor.Stk
open Lib (hid)
open Go.RowKit Row9
set_option maxRecDepth 100000
set_option maxHeartbeats 4000000
set_option linter.unusedVariables false
theorem samec_yes {op ht:Int}{dd:Bool}{v1 v2:Value}{f:List Int}{w:World}(h1:Row elB w v1 f)(h2:Row elB w v2 f):
  Calls Tryz.prog 45 #[.agg #[.int .i64 op,v1,.int .i64 ht,.bool dd],.agg #[.int .i64 op,v2,.int .i64 ht,.bool dd]] w (Yes w):=by
 obtain⟨P1,c1,rfl,_⟩:=h1.form
 obtain⟨P2,c2,rfl,_⟩:=h2.form
 obtain⟨n,hn⟩:∃n,f.length=n:=⟨_,rfl⟩
 rw[hn] at h1 h2 ⊢
 have HB:=hid (below2 w (.cells #[.int .i64 op,.slice P1 n c1,.int .i64 ht,.bool dd] 76) (.cells #[.int .i64 op,.slice P2 n c2,.int .i64 ht,.bool dd] 76))
 have e1:=run_txt (h1.keep HB.out)
 have e2:=run_txt (h2.keep HB.out)
 generalize strOfNums f=S1 at e1 e2
 have t2:(S1.toList == S1.toList)=true:=by simp
 have t3:(op == op)=true:=by simp
 have t4:(ht == ht)=true:=by simp
 have t5:(dd == dd)=true:=by simp
 clear h1 h2 hn
 go_enter Tryz.func45,Tryz.ntmps45
 go_wp2_with fail
 exact bodyPost_ret (v:=.bool true) (by simp[results,Tryz.results45,go_sem]) rfl ⟨rfl,HB.out⟩
theorem same_yes {v u:Value}{s:Stk}{w:World}(hv:StIs elD w v s)(hu:StIs elD w u s)(hl:s.cs.length<=1000000):Calls Tryz.prog 18 #[v,u] w (Yes w):=by
 obtain⟨P,n,c,Q,m,d,rfl⟩:=StIs.form (T:=elD) hv
 obtain⟨P2,n2,c2,Q2,m2,d2,rfl⟩:=StIs.form (T:=elD) hu
 obtain⟨l1,hb1,hc1,hm1,e1,e2,e3⟩:=hv.rows
 obtain⟨l2,hb2,hc2,hm2,e4,e5,e6⟩:=hu.rows
 obtain rfl:n2=n:=e4.symm.trans e1
 obtain rfl:m2=m:=e6.symm.trans e3
 have HB:=hid (below2 w (.cells #[.slice P n2 c,.slice Q m2 d] 30) (.cells #[.slice P2 n2 c2,.slice Q2 m2 d2] 30))
 have HS:=hid (zaD w (.cells #[.slice P n2 c,.slice Q m2 d] 30))
 have HC1:=hid (hc1.keep HB.out)
 have HC2:=hid (hc2.keep HB.out)
 have HM1:=hid hm1
 have HM2:=hid hm2
 have HL1:=hid e2
 have HL2:=hid e5
 have g1:=run_txt (hb1.keep HB.out)
 have g2:=run_txt (hb2.keep HB.out)
 have HX1:=hid ((zaB (w.alloc (.cells #[.slice P n2 c,.slice Q m2 d] 30)) (.cells #[.slice P2 n2 c2,.slice Q2 m2 d2] 30)).block w.heap.size (by rw[zaD];omega) |>.trans (zaC w (.cells #[.slice P n2 c,.slice Q m2 d] 30)))
 have HX2:=hid (zaC (w.alloc (.cells #[.slice P n2 c,.slice Q m2 d] 30)) (.cells #[.slice P2 n2 c2,.slice Q2 m2 d2] 30))
 rw[HS.out] at HX2
 generalize strOfNums s.vals=S1 at g1 g2
 have t2:(S1.toList == S1.toList)=true:=by simp
 have t2':(S1.toList != S1.toList)=false:=by simp
 have t3:((m2:Int) == (m2:Int))=true:=by simp
 have hbig:m2<=1000000:=by omega
 clear hv hu hb1 hb2 hc1 hc2 hm1 hm2 e1 e2 e3 e4 e5 e6 hl
 go_enter Tryz.func18,Tryz.ntmps18
 go_wp2_with fail
 generalize (w.alloc (.cells #[.slice P n2 c,.slice Q m2 d] 30)).alloc (.cells #[.slice P2 n2 c2,.slice Q2 m2 d2] 30)=w2 at *
 obtain⟨x,hx⟩:∃x,w.heap.size=x:=⟨_,rfl⟩
 obtain⟨y,hy⟩:∃y,x+1=y:=⟨_,rfl⟩
 rw[hx] at HX1 HX2
 rw[hy] at HX2
 simp only[hx,hy]
 clear g1 g2 hy HS
 go_loopw [5] (fun i' wr=>∃i:Nat,i'= .int .i64 (i:Int)/\i<=m2/\Below w2.heap.size w2 wr) (fun i' _=>m2 - (intOf i').toNat)
 case atStart=>exact ⟨0,by go_num,Nat.zero_le _,Below.refl _ _⟩
 case round=>
  obtain⟨i,rfl,hi,hbe⟩:=hrel
  have HBe:=hid hbe
  have x0:=(hbe.cell (p:=⟨x,0,none⟩) (lt_of_heap HX1.out)).trans (zaA HX1.out 0).1
  have x1:=(hbe.cell (p:=⟨x,1,none⟩) (lt_of_heap HX1.out)).trans (zaA HX1.out 1).1
  have y0:=(hbe.cell (p:=⟨y,0,none⟩) (lt_of_heap HX2.out)).trans (zaA HX2.out 0).1
  have y1:=(hbe.cell (p:=⟨y,1,none⟩) (lt_of_heap HX2.out)).trans (zaA HX2.out 1).1
  simp only[List.getElem?_toArray,List.getElem?_cons_zero,List.getElem?_cons_succ] at x0 x1 y0 y1
  clear hbe
  by_cases hlt:i<m2
  ·obtain ⟨p,hp⟩:∃p,l1[i]? = some p:=⟨_,List.getElem?_eq_getElem (by rw[HL1.out];exact hlt)⟩
   obtain⟨q,hq⟩:∃q,l2[i]? = some q:=⟨_,List.getElem?_eq_getElem (by rw[HL2.out];exact hlt)⟩
   have hpq:p.1=q.1:=by
    have h1:(l1.map (·.1))[i]? = some p.1:=by rw[List.getElem?_map,hp];rfl
    have h2:(l2.map (·.1))[i]? = some q.1:=by rw[List.getElem?_map,hq];rfl
    rw[HM1.out] at h1
    rw[HM2.out,h1] at h2
    exact Option.some.inj h2
   obtain⟨g,o1,rfl,hg,k0,k1,k2,k3,hO1⟩:=ctl_at (HC1.out.keep HBe.out) hp
   obtain⟨g',o2,rfl,hg',j0,j1,j2,j3,hO2⟩:=ctl_at (HC2.out.keep HBe.out) hq
   obtain⟨⟨op,fin,ht,dd⟩,u1⟩:=p
   obtain⟨qc,u2⟩:=q
   simp only at hpq
   subst hpq
   have HD:=hid (samec_yes (op:=op) (ht:=ht) (dd:=dd) (hO1.1.keep (zaI wr)) (hO2.1.keep (zaI wr)))
   obtain⟨A1,b1,hu1,_⟩:=hO1.1.form
   obtain⟨A2,b2,hu2,_⟩:=hO2.1.form
   simp only at hu1 hu2 k0 k1 k2 k3 j0 j1 j2 j3
   obtain⟨nf,hnf⟩:∃nf,fin.length=nf:=⟨_,rfl⟩
   rw[hnf] at hu1 hu2
   subst hu1 hu2
   obtain⟨r1,hr1⟩:∃r1,o1+i*4=r1:=⟨_,rfl⟩
   obtain⟨r2,hr2⟩:∃r2,o2+i*4=r2:=⟨_,rfl⟩
   rw[hr1] at k0 k1 k2 k3
   rw[hr2] at j0 j1 j2 j3
   have i1:(0:Int)<=(i:Int):=by omega
   have i2:(i:Int)<(m2:Int):=by omega
   have hw1:IntKind.i64.wrap ((i:Int)+1)=(i:Int)+1:=IntWalk.i64_in _ (by omega)
   clear hp hq hg hg' hO1 hO2 hnf
   go_wp2_with fail
   go_region_law (go_simp;go_at_call 45;refine (HD.out).mono ?_;rintro en w6 ⟨rfl,hb6⟩;have HB6:=hid ((zaI wr).trans hb6);clear hb6)
   all_goals (
    go_wp2_with fail
    go_roundw
    case rel=>exact ⟨i+1,by go_num,hlt,by first | exact HBe.out.trans (HB6.out.mono HBe.out.size) | exact (HBe.out.trans (HB6.out.mono HBe.out.size)).drew⟩
    case measure=>simp[intOf];omega)
  ·obtain rfl:i=m2:=by omega
   go_wp2_with fail
   exact bodyPost_ret (v:=.bool true) (by simp[results,Tryz.results18,go_sem]) rfl ⟨rfl,HB.out.trans (HBe.out.mono HB.out.size)⟩
theorem own_notB {w:World}{B b e s n:Nat}{v:Value}{xs:List Value}{cur:Array Value}{t:TypeId}(h:w.ownsRow B e s v n xs)(hb:w.heap[b]? = some (.cells cur t (0,0)))(hne:e≠t){k:Nat}(hk:v.ownBlock=some k):k≠b:=by
 intro e1
 subst e1
 obtain⟨cur',h1⟩:=own_type h hk
 rw[hb] at h1
 simp only[Option.some.injEq,Obj.cells.injEq] at h1
 exact hne h1.2.1.symm
end Go.Proofs.YtlappkflnlbfcaaGreatDoor.Stk
end
section
namespace Go.Proofs.YtlappkflnlbfcaaGreatDoor.Stab
open Lib (hid)
open Go.RowKit
set_option maxRecDepth 100000
set_option linter.unusedVariables false
section
variable {P:Program} {ops:Array Oper} {w0:World} {a0:Act} {env:List (Tmp×Sp)} {o:Oper}
theorem owes_not {t:TypeId}{x:Operand}{b:Bool}(ho:o.op= .unOp .not t x)(hx:evalS a0 env x= .is (.bool b))(hr:∀w,(Op.unary .not (.bool b)).run P w= .ok (.bool !b) w)(hw:wantB ops a0 env o=true):Owes P ops w0 a0 env o (.is (.bool !b)):=
 owes_run hw fun ρ w _ hρ=>by
  have h1:=hρ x (by simp[ho,Op.operands])
  rw[hx] at h1
  have h1:ρ x= .bool b:=h1
  simp only[execOp,ho,h1]
  rw[Sem.run_bind,hr w]
  exact⟨Below.refl _ _,rfl⟩
end
theorem run_not {P:Program}(b:Bool)(W:World):(Op.unary .not (.bool b)).run P W= .ok (.bool !b) W:=by go_simp
theorem run_eqE (x y:Operand)(a b:Int)(r:Bool)(h:(a == b)=r)(W:World):(do eqGuard BinOp.eql 40 x y (.int .i64 a) (.int .i64 b);binOp BinOp.eql 40 (.int .i64 a) (.int .i64 b):Sem Value).run Tryz.prog W= .ok (.bool r) W:=by
 subst h;go_simp
theorem run_neE (x y:Operand)(a b:Int)(r:Bool)(h:(a != b)=r)(W:World):(do eqGuard BinOp.neq 40 x y (.int .i64 a) (.int .i64 b);binOp BinOp.neq 40 (.int .i64 a) (.int .i64 b):Sem Value).run Tryz.prog W= .ok (.bool r) W:=by
 subst h;go_simp
theorem run_cellI (x:Int)(g o:Nat)(W:World)(h:W.cell? ⟨g,o,none⟩=some (.int .i64 x)):(Instr.loadAt 3 (.pointer (some ⟨g,o,none⟩))).run Tryz.prog W= .ok (.int .i64 x) W:=by go_simp
theorem run_cellS (A:Option Addr)(n c g o:Nat)(W:World)(h:W.cell? ⟨g,o,none⟩=some (.slice A n c)):(Instr.loadAt 25 (.pointer (some ⟨g,o,none⟩))).run Tryz.prog W= .ok (.slice A n c) W:=by go_simp
end Go.Proofs.YtlappkflnlbfcaaGreatDoor.Stab
namespace Go.Proofs.YtlappkflnlbfcaaGreatDoor.Stk
open Lib (hid)
open Go.RowKit Row9
set_option maxRecDepth 100000
set_option linter.unusedVariables false
theorem ld_stk {W:World}{x n c m d:Nat}{P Q:Option Addr}{t:TypeId}(h:W.heap[x]? = some (.cells #[.slice P n c,.slice Q m d] t (0,0))):(Instr.loadAt 39 (.pointer (some ⟨x,0,none⟩))).run Tryz.prog W= .ok (.agg #[.slice P n c,.slice Q m d]) W:=by
 obtain⟨h0,h1⟩:=zaH h
 go_simp
theorem blk {w W:World}{x:Nat}{o:Obj}(h:w.heap[x]? = some o)(hb:Below w.heap.size w W):W.heap[x]? = some o:=(hb.block x (lt_of_heap h)).trans h
end Go.Proofs.YtlappkflnlbfcaaGreatDoor.Stk
end
section
namespace Go.Proofs.YtlappkflnlbfcaaGreatDoor.Stk
open Lib (hid)
open Go.RowKit Row9
set_option maxRecDepth 100000
set_option maxHeartbeats 4000000
set_option linter.unusedVariables false
section
variable {α:Type}
def EO (T:El α)(w:World)(B:Nat)(v:Value)(l:List α):Prop:=(∃a,v= .slice (some a) 0 0/\l = [])\/Own T w B v l
theorem EO.keep {T:El α}{w w':World}{B:Nat}{v:Value}{l:List α}(h:EO T w B v l)(hb:Below w.heap.size w w'):EO T w' B v l:=by
 rcases h with h | h
 ·exact .inl h
 ·exact .inr (own_keep h hb)
theorem EO.form {T:El α}{w:World}{B:Nat}{v:Value}{l:List α}(h:EO T w B v l):∃A c,v= .slice A l.length c:=by
 rcases h with ⟨a,rfl,rfl⟩ | h
 ·exact ⟨some a,0,rfl⟩
 ·exact Own.form h
theorem EO.row {T:El α}{w:World}{B:Nat}{v:Value}{l:List α}(h:EO T w B v l)(hok:∀p∈l,T.ok w p):Row T w v l:=by
 rcases h with ⟨a,rfl,rfl⟩ | h
 ·exact ⟨⟨_,0,rfl,Nat.le_refl _,by omega,fun h=>absurd rfl h⟩,by simp⟩
 ·exact Own.row h hok
theorem EO.stay {T:El α}{w w':World}{B:Nat}{v:Value}{l:List α}(h:EO T w B v l)(hk:∀k,B<=k->k<w.heap.size->w'.heap[k]? = w.heap[k]?):EO T w' B v l:=by
 rcases h with h | h
 ·exact .inl h
 ·exact .inr (own_stay h fun k e=>hk k (World.ownsRow.lt h k e).1 (World.ownsRow.lt h k e).2)
theorem run_app0 (T:El α)(t:TypeId)(ht:Tryz.prog.underlying t=some (.slice T.e))(w:World)(ty:TypeId)(B:Nat)(a:Addr)(x:Value)(l:List α)(hl:Row T w x l)(hlen:l.length<=1000000)(hby:T.bytes<=100)(hB:B<=w.heap.size):
  ∃v' w',(Builtin.append_ #[t,t] ty #[.slice (some a) 0 0,x]).run Tryz.prog w= .ok v' w'/\EO T w' B v' l/\Below w.heap.size w w':=by
 obtain⟨i0,hi,hz0,hz1,hz2⟩:=info_parts T.info
 have hbig:l.length*T.bytes<=140737488355328:=by
  have h1:l.length*T.bytes<=1000000*100:=Nat.mul_le_mul hlen hby
  omega
 obtain⟨A,c,rfl,h2,h3⟩:=hl.form
 rcases Nat.eq_zero_or_pos l.length with hl0 | hl0
 ·have hl':l = []:=List.length_eq_zero_iff.1 hl0
  subst hl'
  refine⟨.slice (some a) 0 0,w,?_,.inl ⟨a,rfl,rfl⟩,Below.refl _ _⟩
  rcases A with _ | ad
  ·simp[Builtin.append_,run_underlying ht,sizeOf,typeInfo,hi,Builtin.lenOf,Builtin.firstCells,storeCells]
  ·have hfc:(Builtin.firstCells i0.size 0 (.slice (some ad) 0 c)).run Tryz.prog w= .ok #[] w:=by
    have:=run_firstCells_some (P:=Tryz.prog) w i0.size 0 ad 0 c [] (by simp) (by simp)
    simpa using this
   simp[Builtin.append_,run_underlying ht,sizeOf,typeInfo,hi,Builtin.lenOf,hfc,storeCells]
 ·obtain ⟨y,hy⟩:∃y,l[0]? = some y:=by
   rcases l with _ | ⟨y,l⟩
   ·simp at hl0
   ·exact ⟨y,rfl⟩
  obtain⟨g,off,e,_⟩:=hl.at_ hy
  subst e
  obtain⟨v',w',hr,h1,h2⟩:=run_append_arg_grows (P:=Tryz.prog) w t ty T.e i0 T.z T.s T.bytes ht hi hz0 hz1 hz2 T.zs T.pos a 0 0 [] (by simp) (by simp) ⟨g,off,none⟩ l.length c (l.flatMap T.enc) (by rw[flat_len]) (row_cells hl) (by omega) (by simp only[maxLen];omega) (by simpa using hbig)
  rw[List.nil_append,Nat.zero_add] at h1
  have h1':Own T w' w.heap.size v' l:=h1
  exact⟨v',w',hr,.inr (own_low h1' hB),(Below.refl _ _).grown h2 (Nat.le_refl _) (fun k hk=>by cases hk)⟩
end
def Lit0 (v:Value)(_:World):Prop:=∃a,v= .slice (some a) 0 0
section
variable {ops:Array Oper} {w0:World} {a0:Act} {env:List (Tmp×Stab.Sp)} {o:Oper}
theorem owes_app {α:Type}(T:El α){t:TypeId}{s x:Operand}{vx:Value}{l:List α}(ht:Tryz.prog.underlying t=some (.slice T.e))(ho:o.op= .call { callee:=.builtin .append,args:=#[s,x],argTypes:=#[t,t] })
  (hs:Stab.evalS a0 env s= .fits Lit0) (hx:Stab.evalS a0 env x= .is vx) (hl:Row T w0 vx l) (hlen:l.length<=1000000) (hby:T.bytes<=100) (hw:Stab.wantB ops a0 env o=true):Stab.Owes Tryz.prog ops w0 a0 env o (.fits fun v W=>EO T W w0.heap.size v l):=
 Stab.owes_run hw fun ρ w hb hρ=>by
  have h1:=hρ s (by simp[ho,Op.operands,Call.operands])
  have h2:=hρ x (by simp[ho,Op.operands,Call.operands])
  rw[hs] at h1
  rw[hx] at h2
  have h2:ρ x=vx:=h2
  obtain⟨a,h1⟩:Lit0 (ρ s) w:=h1
  obtain⟨v',w',hr,h3,h4⟩:=run_app0 T t ht w o.type w0.heap.size a vx l (hl.keep hb) hlen hby hb.size
  simp only[execOp,ho,resolve,invoke,builtin,Sem.run_bind,Sem.run_pure,Result.andThen_ok,List.map_toArray,List.map_cons,List.map_nil,h1,h2,hr]
  exact⟨h4,h3⟩
theorem owes_lit {t:TypeId}(ho:o.op= .buildSlice t 0 #[])(hr:∀w,Below w0.heap.size w0 w->Stab.YieldOk Tryz.prog w (Stab.Sp.fits Lit0).holds ((execOp (fun _=>undef) o).run Tryz.prog w))(hw:Stab.wantB ops a0 env o=true):Stab.Owes Tryz.prog ops w0 a0 env o (.fits Lit0):=
 Stab.owes_run hw fun ρ w hb hρ=>by
  have:=hr w hb
  simp only[execOp,ho,Array.map_empty] at this ⊢
  exact this
end
theorem Lit0.stays:Stab.Stays Lit0:=fun _ _ _ h _=>h
theorem run_fD0 (g:Nat)(W:World):(Instr.fieldAt 30 (.pointer (some ⟨g,0,none⟩)) 0).run Tryz.prog W= .ok (.pointer (some ⟨g,0,none⟩)) W:=by go_simp
theorem run_fD1 (g:Nat)(W:World):(Instr.fieldAt 30 (.pointer (some ⟨g,0,none⟩)) 1).run Tryz.prog W= .ok (.pointer (some ⟨g,1,none⟩)) W:=by go_simp
theorem run_cellC (A:Option Addr)(n c g o:Nat)(W:World)(h:W.cell? ⟨g,o,none⟩=some (.slice A n c)):(Instr.loadAt 28 (.pointer (some ⟨g,o,none⟩))).run Tryz.prog W= .ok (.slice A n c) W:=by go_simp
theorem run_bldD (A A':Option Addr)(n c n' c':Nat)(W:World):(Instr.build 30 #[(0,.slice A n c),(1,.slice A' n' c')]).run Tryz.prog W= .ok (.agg #[.slice A n c,.slice A' n' c']) W:=by go_simp
theorem EO.low {α:Type}{T:El α}{w:World}{B B':Nat}{v:Value}{l:List α}(h:EO T w B v l)(hB:B'<=B):EO T w B' v l:=by
 rcases h with h | h
 ·exact .inl h
 ·exact .inr (own_low h hB)
def CpE (s:Stk)(w:World)(e:Ending)(w':World):Prop:=(∃P n c Q m d l,e= .returned (.agg #[.slice P n c,.slice Q m d])/\EO elB w' w.heap.size (.slice P n c) s.vals/\EO elD w' w.heap.size (.slice Q m d) l/\l.map (·.1)=s.cs/\(∀p∈s.vals,0<=p/\p<256)/\(∀p∈l,CtOk w p))/\Below w.heap.size w w'
theorem copied_eo {v:Value}{s:Stk}{w:World}(h:StIs elD w v s)(hv:s.vals.length<=400000)(hl:s.cs.length<=400000):Calls Tryz.prog 32 #[v] w (CpE s w):=by
 obtain⟨P,np,cp,Q,m,d,rfl⟩:=StIs.form (T:=elD) h
 obtain⟨l,hrb,hrc,hml,hnv,hnl,hnc⟩:=h.rows
 have HB2:=hid (below2 w (.cells #[.slice P np cp,.slice Q m d] 30) (.cells #[.slice none 0 0,.slice none 0 0] 30))
 have HA:=hid (hrb.keep HB2.out)
 have HC:=hid (hrc.keep HB2.out)
 have HOK:=hid hrc.2
 have HOB:=hid hrb.2
 have HML:=hid hml
 have HLV:=hid (show s.vals.length<=1000000 by omega)
 have HLC:=hid (show l.length<=1000000 by omega)
 have HX:=hid (blk (zaC w (.cells #[.slice P np cp,.slice Q m d] 30)) (zaB (w.alloc (.cells #[.slice P np cp,.slice Q m d] 30)) (.cells #[.slice none 0 0,.slice none 0 0] 30)))
 have HR:=hid (zaC (w.alloc (.cells #[.slice P np cp,.slice Q m d] 30)) (.cells #[.slice none 0 0,.slice none 0 0] 30))
 simp only[zaD] at HR
 clear h hrb hrc hml hnv hnl hnc hl hv
 go_enter Tryz.func32,Tryz.ntmps32
 go_wp2_with fail
 generalize (w.alloc (.cells #[.slice P np cp,.slice Q m d] 30)).alloc (.cells #[.slice none 0 0,.slice none 0 0] 30)=w2 at *
 obtain⟨x,hx⟩:∃x,w.heap.size=x:=⟨_,rfl⟩
 obtain⟨r,hr⟩:∃r,x+1=r:=⟨_,rfl⟩
 have HXR:Hid (w.heap.size<=r):=hid (by omega)
 rw[hx] at HX HR
 rw[hr] at HR
 simp only[hx]
 simp only[hr]
 clear hr hx
 refine Stab.region_tail 9 12 [.fits Lit0,.is (.pointer (some ⟨x,0,none⟩)),.is (.slice P np cp),.fits (fun v W=>EO elB W w2.heap.size v s.vals),.fits Lit0,.is (.pointer (some ⟨x,1,none⟩)),.is (.slice Q m d),.fits (fun v W=>EO elD W w2.heap.size v l),.fits (fun v W=>∃P n c Q m d,v= .agg #[.slice P n c,.slice Q m d]/\EO elB W w2.heap.size (.slice P n c) s.vals/\EO elD W w2.heap.size (.slice Q m d) l)] (by kernel_rfl) (by kernel_rfl) (by kernel_rfl) (by kernel_rfl) rfl rfl ?_ ?_
 ·simp only[List.take_succ_cons,List.take_zero]
  with_reducible refine Stab.zaF ?_ ?_ ?_
  ·refine owes_lit (t:=25) rfl (fun W hb=>?_) rfl
   go_simp
   exact⟨zaB W _,_,rfl⟩
  ·exact Lit0.stays
  with_reducible refine Stab.zaF ?_ ?_ ?_
  ·exact Stab.owes_fieldAt rfl rfl (fun W=>run_fD0 _ W) rfl
  ·exact trivial
  with_reducible refine Stab.zaF ?_ ?_ ?_
  ·exact Stab.owes_load rfl (fun v W hb hv=>by subst hv;exact Stab.run_cellS _ _ _ _ _ W (zaH (blk HX.out hb)).1) rfl
  ·exact trivial
  with_reducible refine Stab.zaF ?_ ?_ ?_
  ·exact owes_app elB Tryz.underlying25 rfl rfl rfl HA.out HLV.out (by decide) rfl
  ·exact fun v w w' h hb=>EO.keep h hb
  with_reducible refine Stab.zaF ?_ ?_ ?_
  ·refine owes_lit (t:=28) rfl (fun W hb=>?_) rfl
   go_simp
   exact⟨zaB W _,_,rfl⟩
  ·exact Lit0.stays
  with_reducible refine Stab.zaF ?_ ?_ ?_
  ·exact Stab.owes_fieldAt rfl rfl (fun W=>run_fD1 _ W) rfl
  ·exact trivial
  with_reducible refine Stab.zaF ?_ ?_ ?_
  ·exact Stab.owes_load rfl (fun v W hb hv=>by subst hv;exact run_cellC _ _ _ _ _ W (zaH (blk HX.out hb)).2) rfl
  ·exact trivial
  with_reducible refine Stab.zaF ?_ ?_ ?_
  ·exact owes_app elD Tryz.underlying28 rfl rfl rfl HC.out HLC.out (by decide) rfl
  ·exact fun v w w' h hb=>EO.keep h hb
  with_reducible refine Stab.zaF ?_ ?_ ?_
  ·refine Stab.owes_run rfl fun ρ W hb hρ=>?_
   have h6:=hρ (.tmp 6) (by simp[Op.operands])
   have h10:=hρ (.tmp 10) (by simp[Op.operands])
   have h6:EO elB W w2.heap.size (ρ (.tmp 6)) s.vals:=h6
   have h10:EO elD W w2.heap.size (ρ (.tmp 10)) l:=h10
   obtain⟨A1,c1,e1⟩:=h6.form
   obtain⟨A2,c2,e2⟩:=h10.form
   rw[e1] at h6
   rw[e2] at h10
   simp only[execOp,List.map_toArray,List.map_cons,List.map_nil,e1,e2,Sem.run_bind,run_bldD,Result.andThen_ok,Sem.run_pure]
   exact⟨Below.refl _ _,_,_,_,_,_,_,rfl,h6,h10⟩
  ·exact fun v w w' h hb=>by
    obtain⟨P,n,c,Q,m,d,h1,h2,h3⟩:=h
    exact⟨P,n,c,Q,m,d,h1,h2.keep hb,h3.keep hb⟩
  exact Stab.steps_nil
 ·simp only[List.take_succ_cons,List.take_zero,List.drop_succ_cons,List.drop_zero]
  intro y1 y2 y3 y4 y5 W hb hI
  obtain⟨⟨P5,n5,c5,Q5,m5,d5,rfl,h6,h10⟩,_⟩:=hI
  have HW:=hid (HB2.out.trans (hb.mono HB2.out.size))
  have HRW:=hid (blk HR.out hb)
  obtain⟨q0,q1⟩:=zaH HRW.out
  have p0:=(zaA HRW.out 0).2
  have p1:=(zaA HRW.out 1).2
  have HE1:=hid h6
  have HE2:=hid h10
  have hrl:r<W.heap.size:=lt_of_heap HRW.out
  have HRL:Hid (r<w2.heap.size):=lt_of_heap HR.out
  clear hb h6 h10
  simp only[Act.put,List.setIfInBounds_toArray,List.set_cons_succ,List.set_cons_zero]
  go_wp2
  have HW':=hid ((HW.out.setCell (p:=⟨r,0,none⟩) HXR.out (.slice P5 n5 c5)).setCell (p:=⟨r,1,none⟩) HXR.out (.slice Q5 m5 d5))
  have hk:∀k,w2.heap.size<=k->k<W.heap.size->((W.setCell ⟨r,0,none⟩ (.slice P5 n5 c5)).setCell ⟨r,1,none⟩ (.slice Q5 m5 d5)).heap[k]? = W.heap[k]?:=fun k h1 h2=>
   (chg_set _ r 1 _ k (by rw[zaJ];exact h2) (by intro e;have:=HRL.out;have:=Option.some.inj e;omega)).trans (chg_set W r 0 _ k h2 (by intro e;have:=HRL.out;have:=Option.some.inj e;omega))
  have hf:((W.setCell ⟨r,0,none⟩ (.slice P5 n5 c5)).setCell ⟨r,1,none⟩ (.slice Q5 m5 d5)).heap[r]? = some (.cells #[.slice P5 n5 c5,.slice Q5 m5 d5] 30 (0,0)):=by
   rw[zaE (zaE HRW.out _)]
   rfl
  obtain⟨f0,f1⟩:=zaH hf
  generalize (W.setCell ⟨r,0,none⟩ (.slice P5 n5 c5)).setCell ⟨r,1,none⟩ (.slice Q5 m5 d5)=W' at *
  clear q0 q1 p0 p1
  refine bodyPost_ret (v:=.agg #[.slice P5 n5 c5,.slice Q5 m5 d5]) (by simp[results,Tryz.results32,go_sem,f0,f1]) rfl ⟨⟨_,_,_,_,_,_,l,rfl,(HE1.out.stay hk).low HB2.out.size,(HE2.out.stay hk).low HB2.out.size,HML.out,HOB.out,HOK.out⟩,HW'.out⟩
end Go.Proofs.YtlappkflnlbfcaaGreatDoor.Stk
end
section
namespace Go.Proofs.YtlappkflnlbfcaaGreatDoor.Stk
open Lib (hid)
open Go.RowKit Row9
set_option maxRecDepth 100000
set_option maxHeartbeats 4000000
set_option linter.unusedVariables false
theorem rend_any {v:Value}{l:List Int}{w:World}(h:Row elB w v l):Calls Tryz.prog 62 #[v] w fun e w'=>e= .returned (.bool (mayE l))/\w'=w:=by
 obtain⟨A,c,rfl,hc,hm⟩:=h.form
 match l,h with
 | [],h=>
  clear h
  go_enter Tryz.func62,Tryz.ntmps62
  go_wp2_with fail
  all_goals first
   | exact absurd (by assumption) (undef_ne _)
   | exact bodyPost_ret (v:=.bool true) (by simp[results,Tryz.results62,go_sem]) rfl ⟨rfl,rfl⟩
 | [x],h=>
  obtain⟨g,off,rfl,hg,h0,_⟩:=byte_at h (j:=0) (by simp)
  have h0:w.cell? ⟨g,off,none⟩=some (.int .u8 x):=h0
  show Calls _ _ _ _ fun e w'=>e= .returned (.bool ((x == 127) || (x == 126)))/\w'=w
  clear h
  simp only[List.length_cons,List.length_nil] at hc ⊢
  cases t1:(x == 126) with
  | true=>
   rw[Bool.or_true]
   go_enter Tryz.func62,Tryz.ntmps62
   go_wp2_with fail
   all_goals first
    | exact absurd (by assumption) (undef_ne _)
    | exact bodyPost_ret (v:=.bool true) (by simp[results,Tryz.results62,go_sem]) rfl ⟨rfl,rfl⟩
  | false=>
   rw[Bool.or_false]
   generalize t2:(x == 127)=q
   go_enter Tryz.func62,Tryz.ntmps62
   go_wp2_with fail
   all_goals first
    | exact absurd (by assumption) (undef_ne _)
    | exact bodyPost_ret (v:=.bool q) (by simp[results,Tryz.results62,go_sem]) rfl ⟨rfl,rfl⟩
 | x :: y :: r,h=>
  show Calls _ _ _ _ fun e w'=>e= .returned (.bool false)/\w'=w
  obtain⟨n,hn⟩:∃n,(x :: y :: r).length=n:=⟨_,rfl⟩
  have hn2:2<=n:=by rw[<- hn];simp
  rw[hn]
  have t0:((n:Int) == 0)=false:=by simpa using (show (n:Int)≠0 by omega)
  have t1:((n:Int) == 1)=false:=by simpa using (show (n:Int)≠1 by omega)
  have t0':(n == 0)=false:=by simpa using (show n≠0 by omega)
  have t1':(n == 1)=false:=by simpa using (show n≠1 by omega)
  clear h hc hn hn2
  go_enter Tryz.func62,Tryz.ntmps62
  go_wp2_with fail
  all_goals first
   | exact absurd (by assumption) (undef_ne _)
   | exact bodyPost_ret (v:=.bool false) (by simp[results,Tryz.results62,go_sem]) rfl ⟨rfl,rfl⟩
theorem sane_noT {s:Stk}(h:s.vals.any noT=true):sane s=false:=by
 unfold sane
 split
 ·rfl
 ·rw[h];simp
theorem rsane_any {v:Value}{s:Stk}{w:World}(h:StIs elD w v s):
  Calls Tryz.prog 28 #[v] w fun e w'=>e= .returned (.bool (sane s))/\Below w.heap.size w w':=by
 obtain⟨a,c,l,rfl,ha,hc,hl⟩:=h
 obtain⟨vals,cs⟩:=s
 simp only at ha hl
 subst hl
 have HA:=hid ha
 have HC:=hid hc
 have HW:=hid (zaB w (.cells #[a,c] 30))
 have HX:=hid (zaC w (.cells #[a,c] 30))
 obtain⟨Pa,ca,rfl,ha2,ha3⟩:=ha.form
 obtain⟨Pc,cc_,rfl,hc2,hc3⟩:=hc.form
 obtain⟨nv,hnv⟩:∃n,vals.length=n:=⟨_,rfl⟩
 obtain⟨n,hn⟩:∃n,l.length=n:=⟨_,rfl⟩
 have hbig:n<=9223372036854775807:=by omega
 have hbig':nv<=9223372036854775807:=by omega
 rw[hnv] at HA HW HX ⊢
 rw[hn] at HC HW HX ⊢
 have HNV:=hid hnv
 have HN:=hid hn
 obtain⟨R,hR⟩:∃R,sane ⟨vals,l.map (·.1)⟩=R:=⟨_,rfl⟩
 rw[hR]
 have HR:=hid hR
 clear ha hc ha2 ha3 hc2 hc3 hnv hn hR
 go_enter Tryz.func28,Tryz.ntmps28
 go_wp2_with fail
 generalize w.alloc (.cells #[.slice Pa nv ca,.slice Pc n cc_] 30)=w1 at *
 obtain⟨x,hx⟩:∃x,w.heap.size=x:=⟨_,rfl⟩
 have HXS:Hid (w.heap.size=x):=hx
 rw[hx] at HX
 simp only[hx]
 clear hx
 have HAW:=hid (HA.out.keep HW.out)
 have HCW:=hid (HC.out.keep HW.out)
 obtain⟨x0,x1⟩:=zaH HX.out
 have hxl:x<w1.heap.size:=lt_of_heap HX.out
 go_loopw [3] (fun i' wr=>∃i:Nat,i'= .int .i64 (i:Int)/\i<=nv/\wr=w1/\(vals.take i).any noT=false) (fun i' _=>nv - (intOf i').toNat)
 case atStart=>exact ⟨0,by go_num,Nat.zero_le _,rfl,rfl⟩
 case round=>
  obtain⟨i,rfl,hi,hwr,hs⟩:=hrel
  obtain rfl:w1=wr:=hwr.symm
  have HSi:=hid hs
  clear hs
  by_cases hlt:i<nv
  ·obtain ⟨g,off,rfl,hg,hcell,hv0,hv1⟩:=byte_at HAW.out (j:=i) (by rw[HNV.out];exact hlt)
   obtain⟨u,hu⟩:∃u,vals.getD i 0=u:=⟨_,rfl⟩
   rw[hu] at hcell
   have htk:vals.take (i+1)=vals.take i ++ [u]:=by
    have h1:i<vals.length:=by rw[HNV.out];exact hlt
    rw[List.take_succ_eq_append_getElem h1,<- hu,List.getD_eq_getElem?_getD,List.getElem?_eq_getElem h1]
    rfl
   have HAN:Hid ((vals.take (i+1)).any noT=noT u):=by
    show _=_
    rw[htk,List.any_append,HSi.out]
    simp
   have HUM:Hid (u∈vals):=by
    have h1:i<vals.length:=by rw[HNV.out];exact hlt
    rw[<- hu,List.getD_eq_getElem?_getD,List.getElem?_eq_getElem h1]
    exact List.getElem_mem h1
   have i1:(0:Int)<=(i:Int):=by omega
   have i2:(i:Int)<(nv:Int):=by omega
   have hw1:IntKind.i64.wrap ((i:Int)+1)=(i:Int)+1:=IntWalk.i64_in _ (by omega)
   clear hu htk hv0 hv1 hg
   by_cases hno:noT u=true
   ·have HQ:Hid (R=false):=HR.out.symm.trans (sane_noT (List.any_eq_true.2 ⟨u,HUM.out,hno⟩))
    unfold noT isV at hno
    simp only[Bool.and_eq_true,Bool.not_eq_true',Bool.or_eq_false_iff] at hno
    obtain⟨t1,t2,t3⟩:=hno
    have t2':(u != 127)=true:=by simpa using t2
    have t3':(u != 126)=true:=by simpa using t3
    go_wp2_with fail
    exact bodyPost_ret (v:=.bool false) (by simp[results,Tryz.results28,go_sem]) rfl ⟨by rw[HQ.out],HW.out⟩
   ·have HN1:Hid ((vals.take (i+1)).any noT=false):=by
     show _=_
     rw[HAN.out]
     simpa using hno
    have hno:noT u=false:=by simpa using hno
    unfold noT isV at hno
    have hcase:u=0\/u=126\/u=127:=by
     by_cases h1:u=0
     ·exact .inl h1
     ·by_cases h2:u=126
      ·exact .inr (.inl h2)
      ·by_cases h3:u=127
       ·exact .inr (.inr h3)
       ·simp[h1,h2,h3] at hno
    rcases hcase with rfl | rfl | rfl
    all_goals (
     go_wp2_with fail
     go_roundw
     case rel=>exact ⟨i+1,by go_num,hlt,trivial,HN1.out⟩
     case measure=>simp[intOf];omega)
  ·obtain rfl:i=nv:=by omega
   have HNO:Hid (vals.any noT=false):=by
    have:=HSi.out
    rw[List.take_of_length_le (by rw[HNV.out];exact Nat.le_refl _)] at this
    exact this
   go_wp2_with fail
   go_loopw [4,5] (fun h' k' wr=>∃ (k:Nat) (h:Int),h'= .int .i64 h/\k'= .int .i64 (k:Int)/\k<=n/\wr=w1/\sgo 0 (l.map (·.1))=sgo h ((l.map (·.1)).drop k)) (fun _ k' _=>n - (intOf k').toNat)
   case atStart=>exact ⟨0,0,rfl,by go_num,Nat.zero_le _,rfl,rfl⟩
   case round=>
    obtain⟨k,h,rfl,rfl,hk,hwr,hs⟩:=hrel
    obtain rfl:w1=wr:=hwr.symm
    have HSG:=hid hs
    clear hs
    by_cases hlt:k<n
    ·obtain ⟨p,hp⟩:∃p,l[k]? = some p:=⟨_,List.getElem?_eq_getElem (by rw[HN.out];exact hlt)⟩
     obtain⟨g,off,rfl,hg,k0,k1,k2,k3,hO⟩:=ctl_at HCW.out hp
     have hD:=drop_cons hp
     rw[hD] at HSG
     obtain⟨Pe,ce,hpe,_⟩:=hO.1.form
     obtain⟨ne,hne⟩:∃ne,p.1.fin.length=ne:=⟨_,rfl⟩
     have HM:=hid (rend_any hO.1)
     rw[hne] at hpe
     rw[hpe] at k1 HM
     have i1:(0:Int)<=(k:Int):=by omega
     have i2:(k:Int)<(n:Int):=by omega
     have hw1:IntKind.i64.wrap ((k:Int)+1)=(k:Int)+1:=IntWalk.i64_in _ (by omega)
     obtain⟨ht,hht⟩:∃ht,p.1.ht=ht:=⟨_,rfl⟩
     rw[hht] at k2
     obtain⟨qq,hqq⟩:∃qq,off+k*4=qq:=⟨_,rfl⟩
     rw[hqq] at k0 k1 k2 k3
     have HHT:=hid hht
     clear hp hD hO hpe hne hht hg
     cases hm:mayE p.1.fin with
     | false=>
      have HQ:Hid (R=false):=HR.out.symm.trans (sane_none (HSG.out.trans (sgo_cons_no hm)))
      rw[hm] at HM
      clear hm
      go_wp2_with fail
      refine HM.out.mono ?_
      rintro e w2 ⟨rfl,rfl⟩
      go_wp2_with fail
      exact bodyPost_ret (v:=.bool false) (by simp[results,Tryz.results28,go_sem]) rfl ⟨by rw[HQ.out],HW.out⟩
     | true=>
      rw[hm] at HM
      by_cases hlo:ht<h
      ·have HQ:Hid (R=false):=HR.out.symm.trans (sane_none (HSG.out.trans (sgo_cons_low (by rw[HHT.out];exact hlo))))
       have t5:decide (ht<h)=true:=decide_eq_true hlo
       clear hm hlo
       go_wp2_with fail
       refine HM.out.mono ?_
       rintro e w2 ⟨rfl,rfl⟩
       go_wp2_with fail
       exact bodyPost_ret (v:=.bool false) (by simp[results,Tryz.results28,go_sem]) rfl ⟨by rw[HQ.out],HW.out⟩
      ·have HQ:Hid (sgo 0 (l.map (·.1))=sgo ht ((l.map (·.1)).drop (k+1))):=by show _=_;rw[HSG.out,sgo_cons_yes hm (by rw[HHT.out];exact hlo),HHT.out]
       have t5:decide (ht<h)=false:=decide_eq_false hlo
       clear hm hlo
       go_wp2_with fail
       refine HM.out.mono ?_
       rintro e w2 ⟨rfl,rfl⟩
       go_wp2_with fail
       go_roundw
       case rel=>exact ⟨k+1,ht,rfl,by go_num,hlt,trivial,HQ.out⟩
       case measure=>simp[intOf];omega
    ·obtain rfl:k=n:=by omega
     have hse:sgo 0 (l.map (·.1))=some h:=by
      rw[HSG.out,List.drop_of_length_le (by rw[List.length_map,HN.out];exact Nat.le_refl _)]
      rfl
     have hsx:sane ⟨vals,l.map (·.1)⟩=(decide (h<=(vals.length:Int)) && !(vals.any noT)):=sane_some hse
     rw[HR.out,HNV.out,HNO.out,Bool.not_false,Bool.and_true] at hsx
     have HQ:=hid hsx
     clear hse hsx
     generalize t5:decide (h<=(i:Int))=q at HQ
     go_wp2_with fail
     exact bodyPost_ret (v:=.bool q) (by simp[results,Tryz.results28,go_sem]) rfl ⟨by rw[HQ.out],HW.out⟩
end Go.Proofs.YtlappkflnlbfcaaGreatDoor.Stk
end
