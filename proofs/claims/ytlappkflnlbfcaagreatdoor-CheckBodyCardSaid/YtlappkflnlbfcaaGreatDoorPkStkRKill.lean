/- StkRPush, StkRKill. -/
import Derived.Test.YtlappkflnlbfcaaGreatDoorPkStkRSane
section
namespace Go.Proofs.YtlappkflnlbfcaaGreatDoor.Stk
open Lib (hid)
open Go.RowKit Row9
set_option maxRecDepth 100000
set_option maxHeartbeats 4000000
set_option linter.unusedVariables false
def ChgT (t:TypeId)(w w':World):Prop:=∀ (k:Nat) (cur:Array Value) (t':TypeId),w.heap[k]? = some (.cells cur t' (0,0))->t≠t'->w'.heap[k]? = some (.cells cur t' (0,0))
theorem ChgT.of_own {α:Type}{T:El α}{w w':World}{B:Nat}{v:Value}{l:List α}(h:Own T w B v l)(hc:Chg w w' v.ownBlock):ChgT T.e w w':=fun k cur t' hk hne=>
 (hc k (lt_of_heap hk) (fun e=>own_notB h hk hne e.symm rfl)).trans hk
theorem ChgT.of_below {t:TypeId}{w w':World}(hb:Below w.heap.size w w'):ChgT t w w':=fun k cur t' hk hne=>blk hk hb
theorem run_appT {α:Type}(T:El α)(t:TypeId)(ht:Tryz.prog.underlying t=some (.slice T.e))(w:World)(ty:TypeId)(B:Nat)(v x:Value)(done l:List α)(hown:EO T w B v done)(hl:Row T w x l)(hlen:done.length+l.length<=1000000)(hby:T.bytes<=100)(hB:B<=w.heap.size):
  ∃v' w',(Builtin.append_ #[t,t] ty #[v,x]).run Tryz.prog w= .ok v' w'/\EO T w' B v' (done ++ l)/\Below B w w'/\ChgT T.e w w':=by
 rcases hown with ⟨a,rfl,rfl⟩ | hown
 ·obtain ⟨v',w',h1,h2,h3⟩:=run_app0 T t ht w ty B a x l hl (by simp at hlen;omega) hby hB
  exact⟨v',w',h1,h2,h3.mono hB,.of_below h3⟩
 ·obtain ⟨v',w',hr,h1,h2⟩:=run_rowsG T t ht w ty B v x done l hown hl hlen hby hB
  exact⟨v',w',hr,.inr h1,(Below.refl _ _).grown h2 hB (fun k hk=>(World.ownsRow.lt hown k hk).1),.of_own hown (fun k hk hne=>h2.block k hk hne)⟩
theorem wp_appT {α:Type}(T:El α){ops:Array Oper}{rest:List Oper}{o:Oper}{a:Act}{Q:Exit->Act->World->Prop}(t:TypeId)(ht:Tryz.prog.underlying t=some (.slice T.e))(w:World)(hgd:o.guard=none)(s x:Operand)
  (ho:o.op= .call { callee:=.builtin .append,args:=#[s,x],argTypes:=#[t,t] }) (B:Nat) (v x':Value) (done l:List α) (hs:a.eval s=v) (hown:EO T w B v done)
  (hx:a.eval x=x') (hl:Row T w x' l) (hlen:done.length+l.length<=1000000) (hby:T.bytes<=100) (hB:B<=w.heap.size)
  (h:∀v' w',EO T w' B v' (done ++ l)->Below B w w'->ChgT T.e w w'->wpList Tryz.prog ops Q rest (a.put o.dst v') w'):wpList Tryz.prog ops Q (o :: rest) a w:=by
 refine wpList_plain hgd fun K hK=>?_
 obtain⟨v',w',hr,h1,h2,h3⟩:=run_appT T t ht w o.type B v x' done l hown hl hlen hby hB
 unfold Oper.wp
 simp only[execOp,ho,resolve,invoke,builtin,Sem.run_bind,Sem.run_pure,Result.andThen_ok,List.map_toArray,List.map_cons,List.map_nil,hs,hx,hr]
 exact hK _ _ (h v' w' h1 h2 h3)
theorem EO.other {α:Type}{T:El α}{w w':World}{B:Nat}{v:Value}{l:List α}{t:TypeId}(h:EO T w B v l)(hc:ChgT t w w')(hne:t≠T.e):EO T w' B v l:=by
 rcases h with h | h
 ·exact .inl h
 ·refine .inr (own_stay h fun k hk=>?_)
  obtain⟨cur,hcur⟩:=own_type h hk
  rw[hcur]
  exact hc k cur _ hcur hne
theorem chgT_set {w:World}{o i:Nat}{cur:Array Value}{t:TypeId}{u:Value}(h:w.heap[o]? = some (.cells cur t (0,0))):ChgT t w (w.setCell ⟨o,i,none⟩ u):=fun k cur' t' hk hne=>by
 rw[chg_set w o i u k (lt_of_heap hk) (by
  intro e
  obtain rfl:=Option.some.inj e
  rw[h] at hk
  simp only[Option.some.injEq,Obj.cells.injEq] at hk
  exact hne hk.2.1)]
 exact hk
theorem chgT_low {w:World}{r o i:Nat}{cs:Array Value}{t:TypeId}{u:Value}(h:w.heap[r]? = some (.cells cs t (0,0)))(hne:r≠o):(w.setCell ⟨o,i,none⟩ u).heap[r]? = some (.cells cs t (0,0)):=by
 rw[chg_set w o i u r (lt_of_heap h) (fun e=>hne (Option.some.inj e))]
 exact h
theorem box_int {W:World}{y:Nat}{A A':Option Addr}{n c n' c':Nat}{t:TypeId}(h:W.heap[y]? = some (.cells #[.slice A n c,.slice A' n' c'] t (0,0)))(o:Nat){k:IntKind}{x:Int}:W.cell? ⟨y,o,none⟩≠some (.int k x):=by
 rw[(zaA h o).1]
 rcases o with _ | _ | o <;> simp
theorem rowB_box {W:World}{y i:Nat}{u v:Value}{l:List Int}{A A':Option Addr}{n c n' c':Nat}{t:TypeId}(h:Row elB W v l)(hy:W.heap[y]? = some (.cells #[.slice A n c,.slice A' n' c'] t (0,0))):Row elB (W.setCell ⟨y,i,none⟩ u) v l:=by
 obtain⟨⟨B,d,h1,h2,h3,h4⟩,h5⟩:=h
 refine⟨⟨B,d,h1,h2,h3,fun h0=>?_⟩,h5⟩
 obtain⟨g,off,e,hg,hB⟩:=h4 h0
 have hgy:y≠g:=by
  intro e
  subst e
  obtain⟨p,hp⟩:∃p,l[0]? = some p:=by
   cases l with
   | nil=>exact absurd rfl h0
   | cons p l=>exact ⟨p,rfl⟩
  exact box_int hy _ (hB 0 p hp 0 _ rfl)
 refine⟨g,off,e,by rw[zaJ];exact hg,fun j p hj i' u' hu=>?_⟩
 rw[World.cell?_setCell_other _ _ _ _ (by intro e;exact hgy (congrArg Addr.block e))]
 exact hB j p hj i' u' hu
theorem ctok_box {W:World}{y i:Nat}{u:Value}{p:CtV}{A A':Option Addr}{n c n' c':Nat}{t:TypeId}(h:CtOk W p)(hy:W.heap[y]? = some (.cells #[.slice A n c,.slice A' n' c'] t (0,0))):CtOk (W.setCell ⟨y,i,none⟩ u) p:=⟨rowB_box h.1 hy,h.2⟩
theorem store2 {W:World}{r:Nat}{a0 b0:Value}{t:TypeId}(h:W.heap[r]? = some (.cells #[a0,b0] t (0,0)))(a b:Value):((W.setCell ⟨r,0,none⟩ a).setCell ⟨r,1,none⟩ b).heap[r]? = some (.cells #[a,b] t (0,0)):=by
 rw[zaE (zaE h _)]
 rfl
def ROp (r:Stk×Int)(w:World)(e:Ending)(w':World):Prop:=(∃P n c Q m d,e= .returned (.tuple #[.agg #[.slice P n c,.slice Q m d],.int .i64 r.2])/\StIs elD w' (.agg #[.slice P n c,.slice Q m d]) r.1)/\Below w.heap.size w w'
theorem push_notsane {s:Stk}{xs:List Int}(h:sane s=false):pushS s xs=(none_,1):=by unfold pushS;rw[if_pos h]
theorem sane_vals (xs:List Int):sane ⟨xs,[]⟩ = !(xs.any noT):=by
 unfold sane
 show (decide ((0:Int)<=xs.length) && !(xs.any noT))=_
 rw[decide_eq_true (by omega),Bool.true_and]
theorem rpush_any {v x:Value}{s:Stk}{xs:List Int}{w:World}(h:StIs elD w v s)(hx:Row elB w x xs)(h1:s.vals.length<=400000)(h2:s.cs.length<=400000)(h3:xs.length<=400000):
  Calls Tryz.prog 74 #[v,x] w (ROp (pushS s xs) w):=by
 obtain⟨P,np,cp,Q,m,d,rfl⟩:=StIs.form (T:=elD) h
 obtain⟨Px,cx,rfl,_⟩:=hx.form
 obtain⟨nx,hnx⟩:∃n,xs.length=n:=⟨_,rfl⟩
 rw[hnx] at hx ⊢
 have HB2:=hid (below2 w (.cells #[.slice P np cp,.slice Q m d] 30) (.cells #[.slice none 0 0,.slice none 0 0] 30))
 have HV:=hid (h.keep HB2.out)
 have HX:=hid (hx.keep HB2.out)
 have HBX:=hid (blk (zaC w (.cells #[.slice P np cp,.slice Q m d] 30)) (zaB (w.alloc (.cells #[.slice P np cp,.slice Q m d] 30)) (.cells #[.slice none 0 0,.slice none 0 0] 30)))
 have HR:=hid (zaC (w.alloc (.cells #[.slice P np cp,.slice Q m d] 30)) (.cells #[.slice none 0 0,.slice none 0 0] 30))
 simp only[zaD] at HR
 have HL1:=hid h1
 have HL2:=hid h2
 have HNX:=hid hnx
 have HL3:Hid (nx<=400000):=hid (by omega)
 obtain⟨R,hR⟩:∃R,pushS s xs=R:=⟨_,rfl⟩
 have HRR:=hid hR
 rw[hR]
 clear h hx h1 h2 h3 hnx hR
 go_enter Tryz.func74,Tryz.ntmps74
 go_wp2_with fail
 generalize (w.alloc (.cells #[.slice P np cp,.slice Q m d] 30)).alloc (.cells #[.slice none 0 0,.slice none 0 0] 30)=w2 at *
 obtain⟨b,hb0⟩:∃b,w.heap.size=b:=⟨_,rfl⟩
 obtain⟨r,hr0⟩:∃r,b+1=r:=⟨_,rfl⟩
 have HBR:Hid (w.heap.size<=r):=hid (by omega)
 rw[hb0] at HBX HR
 rw[hr0] at HR
 simp only[hb0]
 simp only[hr0]
 clear hb0 hr0
 refine(rsane_any HV.out).mono ?_
 rintro e w3 ⟨rfl,hb⟩
 have HB3:=hid (HB2.out.trans (hb.mono HB2.out.size))
 have HV3:=hid (HV.out.keep hb)
 have HX3:=hid (HX.out.keep hb)
 have HBX3:=hid (blk HBX.out hb)
 have HR3:=hid (blk HR.out hb)
 clear hb HV HX HBX HR HB2
 cases hs:sane s with
 | false=>
  have HQ:Hid (R=(none_,1)):=HRR.out.symm.trans (push_notsane hs)
  obtain⟨q0,q1⟩:=zaH HR3.out
  have p0:=(zaA HR3.out 0).2
  have p1:=(zaA HR3.out 1).2
  have hrl:r<w3.heap.size:=lt_of_heap HR3.out
  go_wp2_with fail
  obtain⟨f0,f1⟩:=zaH (store2 HR3.out (.slice none 0 0) (.slice none 0 0))
  have HF:=hid ((HB3.out.setCell (p:=⟨r,0,none⟩) HBR.out (.slice none 0 0)).setCell (p:=⟨r,1,none⟩) HBR.out (.slice none 0 0))
  generalize (w3.setCell ⟨r,0,none⟩ (.slice none 0 0)).setCell ⟨r,1,none⟩ (.slice none 0 0)=wf at *
  clear q0 q1 p0 p1
  rw[HQ.out]
  exact bodyPost_ret (v:=.tuple #[.agg #[.slice none 0 0,.slice none 0 0],.int .i64 1]) (by simp[results,Tryz.results74,go_sem,f0,f1]) rfl ⟨⟨_,_,_,_,_,_,rfl,StIs.none_ elD wf⟩,HF.out⟩
 | true=>
  have HS:=hid hs
  clear hs
  go_wp2_with fail
  have HVX:Hid (StIs elD w3 (.agg #[.slice Px nx cx,.slice none 0 0]) ⟨xs,[]⟩):=⟨_,_,[],rfl,HX3.out,Row.nil _ _,rfl⟩
  refine(rsane_any HVX.out).mono ?_
  rintro e w4 ⟨rfl,hb⟩
  rw[sane_vals]
  have HB4:=hid (HB3.out.trans (hb.mono HB3.out.size))
  have HV4:=hid (HV3.out.keep hb)
  have HX4:=hid (HX3.out.keep hb)
  have HBX4:=hid (blk HBX3.out hb)
  have HR4:=hid (blk HR3.out hb)
  clear hb HV3 HX3 HBX3 HR3 HVX
  cases hno:xs.any noT with
  | true=>
   have HQ:Hid (R=(none_,1)):=HRR.out.symm.trans (push_no HS.out hno)
   obtain⟨q0,q1⟩:=zaH HR4.out
   have p0:=(zaA HR4.out 0).2
   have p1:=(zaA HR4.out 1).2
   have hrl:r<w4.heap.size:=lt_of_heap HR4.out
   go_wp2_with fail
   obtain⟨f0,f1⟩:=zaH (store2 HR4.out (.slice none 0 0) (.slice none 0 0))
   have HF:=hid ((HB4.out.setCell (p:=⟨r,0,none⟩) HBR.out (.slice none 0 0)).setCell (p:=⟨r,1,none⟩) HBR.out (.slice none 0 0))
   generalize (w4.setCell ⟨r,0,none⟩ (.slice none 0 0)).setCell ⟨r,1,none⟩ (.slice none 0 0)=wf at *
   clear q0 q1 p0 p1
   rw[HQ.out]
   exact bodyPost_ret (v:=.tuple #[.agg #[.slice none 0 0,.slice none 0 0],.int .i64 1]) (by simp[results,Tryz.results74,go_sem,f0,f1]) rfl ⟨⟨_,_,_,_,_,_,rfl,StIs.none_ elD wf⟩,HF.out⟩
  | false=>
   have HQ:Hid (R=(⟨s.vals ++ xs,s.cs⟩,0)):=HRR.out.symm.trans (push_ok HS.out hno)
   clear hno
   obtain⟨x0,x1⟩:=zaH HBX4.out
   have hbl:b<w4.heap.size:=lt_of_heap HBX4.out
   go_wp2_with fail
   clear x0 x1 hbl
   refine(copied_eo HV4.out HL1.out HL2.out).mono ?_
   rintro e w5 ⟨⟨P5,n5,c5,Q5,m5,d5,l,rfl,he1,he2,hml,hok,hck⟩,hb⟩
   have HBn:=hid (hb.trans ((zaB w5 (.cells #[.slice P5 n5 c5,.slice Q5 m5 d5] 30)).mono hb.size))
   have HB6:=hid (HB4.out.trans (HBn.out.mono HB4.out.size))
   have HE1:=hid (he1.keep (zaB w5 (.cells #[.slice P5 n5 c5,.slice Q5 m5 d5] 30)))
   have HE2:=hid (he2.keep (zaB w5 (.cells #[.slice P5 n5 c5,.slice Q5 m5 d5] 30)))
   have HO6:=hid (zaC w5 (.cells #[.slice P5 n5 c5,.slice Q5 m5 d5] 30))
   have HR6:=hid (blk HR4.out HBn.out)
   have HX6:=hid (HX4.out.keep HBn.out)
   have HML:=hid hml
   have HOK:=hid hok
   have HCK:=hid hck
   have HO5:Hid (w4.heap.size<=w5.heap.size):=hb.size
   have HR4l:Hid (r<w4.heap.size):=lt_of_heap HR4.out
   clear hb he1 he2 hml hok hck
   go_wp2_with (at_builtin;refine stop_ ?_)
   refine hid ?_
   generalize w5.alloc (.cells #[.slice P5 n5 c5,.slice Q5 m5 d5] 30)=w6 at *
   obtain⟨o,ho⟩:∃o,w5.heap.size=o:=⟨_,rfl⟩
   rw[ho] at HO6 HO5
   simp only[ho]
   clear ho
   refine wp_appT elB 25 Tryz.underlying25 w6 rfl (.tmp 20) (.tmp 21) rfl w4.heap.size _ _ s.vals xs rfl HE1.out rfl HX6.out (by have:=HL1.out;have:=HL3.out;have:=HNX.out;omega) (by decide) (Nat.le_trans HO5.out (Nat.le_of_lt (lt_of_heap HO6.out))) ?_
   intro v7 w7 he7 hb7 hc7
   obtain⟨P7,c7,hv7⟩:=he7.form
   obtain⟨n7,hn7⟩:∃n,(s.vals ++ xs).length=n:=⟨_,rfl⟩
   rw[hn7] at hv7
   subst hv7
   have ho7:=hc7 o _ _ HO6.out (by decide)
   have hr7:=hc7 r _ _ HR6.out (by decide)
   have HO7:=hid ho7
   have HR7:=hid hr7
   have he2:=HE2.out.other hc7 (by decide)
   have HB7:=hid (HB6.out.trans (hb7.mono (Nat.le_trans HB4.out.size (Nat.le_refl _))))
   have HE7:=hid (he7.other (chgT_set (i:=0) (u:=.slice P7 n7 c7) ho7) (by decide))
   have HE72:=hid (he2.other (chgT_set (i:=0) (u:=.slice P7 n7 c7) ho7) (by decide))
   have HO8:Hid ((w7.setCell ⟨o,0,none⟩ (.slice P7 n7 c7)).heap[o]? = some (.cells #[.slice P7 n7 c7,.slice Q5 m5 d5] 30 (0,0))):=by
    show _=_
    rw[zaE ho7]
    rfl
   have HR8:=hid (chgT_low (t:=30) (u:=.slice P7 n7 c7) hr7 (o:=o) (i:=0) (by have:=HR4l.out;have:=HO5.out;omega))
   obtain⟨o0,o1⟩:=zaH ho7
   have op0:=(zaA ho7 0).2
   have hol:o<w7.heap.size:=lt_of_heap ho7
   obtain⟨q0,q1⟩:=zaH hr7
   have p0:=(zaA hr7 0).2
   have p1:=(zaA hr7 1).2
   have hrl:r<w7.heap.size:=lt_of_heap hr7
   have hro:r≠o:=by have:=HR4l.out;have:=HO5.out;omega
   have hor:o≠r:=Ne.symm hro
   have HF:=hid (((HB7.out.setCell (p:=⟨o,0,none⟩) (Nat.le_trans HB4.out.size HO5.out) (.slice P7 n7 c7)).setCell (p:=⟨r,0,none⟩) HBR.out (.slice P7 n7 c7)).setCell (p:=⟨r,1,none⟩) HBR.out (.slice Q5 m5 d5))
   have HG1:=hid ((HE7.out.other (chgT_set (i:=0) (u:=.slice P7 n7 c7) HR8.out) (by decide)).other (chgT_set (i:=1) (u:=.slice Q5 m5 d5) (zaE HR8.out _)) (by decide))
   have HG2:=hid ((HE72.out.other (chgT_set (i:=0) (u:=.slice P7 n7 c7) HR8.out) (by decide)).other (chgT_set (i:=1) (u:=.slice Q5 m5 d5) (zaE HR8.out _)) (by decide))
   obtain⟨f0,f1⟩:=zaH (store2 HR8.out (.slice P7 n7 c7) (.slice Q5 m5 d5))
   have HFC:Hid (∀p∈l,CtOk (((w7.setCell ⟨o,0,none⟩ (.slice P7 n7 c7)).setCell ⟨r,0,none⟩ (.slice P7 n7 c7)).setCell ⟨r,1,none⟩ (.slice Q5 m5 d5)) p):=fun p hp=>
    ctok_box (ctok_box (ctok_box ((HCK.out p hp).keep (HBn.out.trans hb7)) HO7.out) HR8.out) (zaE HR8.out _)
   clear he7 hb7 hc7 he2 ho7 hr7 hn7
   simp only[Act.put,List.setIfInBounds_toArray,List.set_cons_succ,List.set_cons_zero]
   go_wp2_with fail
   generalize ((w7.setCell ⟨o,0,none⟩ (.slice P7 n7 c7)).setCell ⟨r,0,none⟩ (.slice P7 n7 c7)).setCell ⟨r,1,none⟩ (.slice Q5 m5 d5)=wf at *
   clear q0 q1 p0 p1 o0 o1 op0
   rw[HQ.out]
   exact bodyPost_ret (v:=.tuple #[.agg #[.slice P7 n7 c7,.slice Q5 m5 d5],.int .i64 0]) (by simp[results,Tryz.results74,go_sem,f0,f1]) rfl ⟨⟨_,_,_,_,_,_,rfl,_,_,l,rfl,HG1.out.row (fun p hp=>by
    rcases List.mem_append.1 hp with hp | hp
    ·exact HOK.out p hp
    ·exact HX6.out.2 p hp),HG2.out.row (fun p hp=>(HFC.out p hp)),HML.out⟩,HF.out⟩
theorem kill_notsane {s:Stk}(h:sane s=false):killS s=(none_,1):=by unfold killS;rw[if_pos h]
theorem run_idxD (g off k n c:Nat)(W:World)(h1:(0:Int)<=(k:Int))(h2:(k:Int)<(n:Int)):(Instr.indexAt 28 (.slice (some ⟨g,off,none⟩) n c) (.int .i64 (k:Int))).run Tryz.prog W= .ok (.pointer (some ⟨g,off+k*4,none⟩)) W:=by go_simp
theorem EO.of_own {α:Type}{T:El α}{w:World}{B:Nat}{v:Value}{l:List α}(h:Own T w B v l):EO T w B v l:=.inr h
theorem EO.take {α:Type}{T:El α}{w:World}{B n c:Nat}{P:Option Addr}{l:List α}(h:EO T w B (.slice P n c) l)(k:Nat)(hk:k<=n):EO T w B (.slice P k c) (l.take k):=by
 rcases h with ⟨a,e,rfl⟩ | h
 ·injection e with e1 e2 e3
  subst e1 e2 e3
  obtain rfl:k=0:=by omega
  exact .inl ⟨a,rfl,rfl⟩
 ·obtain ⟨P',c',e⟩:=Own.form h
  injection e with _ e2 _
  exact .inr (Own.take h k (by omega))
theorem rowB_bool {W:World}{y i:Nat}{u v:Value}{l:List Int}{dd:Bool}(h:Row elB W v l)(hy:W.cell? ⟨y,i,none⟩=some (.bool dd)):Row elB (W.setCell ⟨y,i,none⟩ u) v l:=by
 obtain⟨⟨B,d,h1,h2,h3,h4⟩,h5⟩:=h
 refine⟨⟨B,d,h1,h2,h3,fun h0=>?_⟩,h5⟩
 obtain⟨g,off,e,hg,hB⟩:=h4 h0
 refine⟨g,off,e,by rw[zaJ];exact hg,fun j p hj i' u' hu=>?_⟩
 rw[World.cell?_setCell_other _ _ _ _ (by
  intro e
  have h6:=hB j p hj i' u' hu
  rw[<- e,hy] at h6
  obtain rfl:=Option.some.inj h6
  rcases i' with _ | i'
  ·cases hu
  ·cases hu)]
 exact hB j p hj i' u' hu
theorem ctok_bool {W:World}{y i:Nat}{u:Value}{p:CtV}{dd:Bool}(h:CtOk W p)(hy:W.cell? ⟨y,i,none⟩=some (.bool dd)):CtOk (W.setCell ⟨y,i,none⟩ u) p:=⟨rowB_bool h.1 hy,h.2⟩
theorem flat_deadD (q:List CtV)(p:CtV):((q ++ [p]).flatMap elD.enc).set (q.length*4+3) (.bool true)=(q ++ [deadC p]).flatMap elD.enc:=by
 have hl:(q.flatMap elD.enc).length=q.length*4:=Row9.flat_len elD q
 rw[List.flatMap_append,List.flatMap_append,List.set_append_right _ _ (by omega),hl,show q.length*4+3 - q.length*4=3 from by omega]
 rfl
theorem own_deadD {w:World}{B g n c m:Nat}{q:List CtV}{p:CtV}(h:Own elD w B (.slice (some ⟨g,0,none⟩) n c) (q ++ [p]))(hm:q.length=m):Own elD (w.setCell ⟨g,m*4+3,none⟩ (.bool true)) B (.slice (some ⟨g,0,none⟩) n c) (q ++ [deadC p]):=by
 subst hm
 have:=own_set (v:=.bool true) (i:=q.length*4+3) h (by rw[List.length_append,List.length_singleton];show _<(q.length+1)*4;omega)
 rw[flat_deadD] at this
 have e:(q ++ [deadC p]).length=(q ++ [p]).length:=by rw[List.length_append,List.length_append];rfl
 unfold Row9.Own
 rw[e]
 exact this
theorem run_fCD2 (g o:Nat)(W:World):(Instr.fieldAt 76 (.pointer (some ⟨g,o,none⟩)) 2).run Tryz.prog W= .ok (.pointer (some ⟨g,o+2,none⟩)) W:=by go_simp
theorem run_uptoB (A:Option Addr)(n c k:Nat)(W:World)(h:k<=c):(Instr.sliceAt 25 (.slice A n c) none (some (.int .i64 (k:Int))) none).run Tryz.prog W= .ok (.slice A k c) W:=by
 have h1:(0:Int)<=(k:Int):=by omega
 have h2:(k:Int)<=(c:Int):=by omega
 have h3:¬ ((c:Int)<(k:Int)):=by omega
 cases A <;> go_simp
theorem rkill_any {v:Value}{s:Stk}{w:World}(h:StIs elD w v s)(h1:s.vals.length<=400000)(h2:s.cs.length<=400000):
  Calls Tryz.prog 66 #[v] w (ROp (killS s) w):=by
 obtain⟨P,np,cp,Q,m,d,rfl⟩:=StIs.form (T:=elD) h
 obtain⟨l0,_,hrc0,hml0,hnv,hnl0,hnc⟩:=h.rows
 have HB2:=hid (below2 w (.cells #[.slice P np cp,.slice Q m d] 30) (.cells #[.slice none 0 0,.slice none 0 0] 30))
 have HV:=hid (h.keep HB2.out)
 have HBX:=hid (blk (zaC w (.cells #[.slice P np cp,.slice Q m d] 30)) (zaB (w.alloc (.cells #[.slice P np cp,.slice Q m d] 30)) (.cells #[.slice none 0 0,.slice none 0 0] 30)))
 have HR:=hid (zaC (w.alloc (.cells #[.slice P np cp,.slice Q m d] 30)) (.cells #[.slice none 0 0,.slice none 0 0] 30))
 simp only[zaD] at HR
 have HL1:=hid h1
 have HL2:=hid h2
 have HNC:=hid hnc
 have HRC0:=hid (hrc0.keep HB2.out)
 have HML0:=hid hml0
 obtain⟨R,hR⟩:∃R,killS s=R:=⟨_,rfl⟩
 have HRR:=hid hR
 rw[hR]
 have hbig:m<=400000:=by omega
 clear h h1 h2 hR hrc0 hml0 hnv hnl0 hnc
 go_enter Tryz.func66,Tryz.ntmps66
 go_wp2_with fail
 generalize (w.alloc (.cells #[.slice P np cp,.slice Q m d] 30)).alloc (.cells #[.slice none 0 0,.slice none 0 0] 30)=w2 at *
 obtain⟨b,hb0⟩:∃b,w.heap.size=b:=⟨_,rfl⟩
 obtain⟨r,hr0⟩:∃r,b+1=r:=⟨_,rfl⟩
 have HBR:Hid (w.heap.size<=r):=hid (by omega)
 rw[hb0] at HBX HR
 rw[hr0] at HR
 simp only[hb0]
 simp only[hr0]
 clear hb0 hr0
 refine(rsane_any HV.out).mono ?_
 rintro e w3 ⟨rfl,hb⟩
 have HB3:=hid (HB2.out.trans (hb.mono HB2.out.size))
 have HV3:=hid (HV.out.keep hb)
 have HRC3:=hid (HRC0.out.keep hb)
 have HBX3:=hid (blk HBX.out hb)
 have HR3:=hid (blk HR.out hb)
 clear hb HV HBX HR HB2 HRC0
 obtain⟨q0,q1⟩:=zaH HR3.out
 have p0:=(zaA HR3.out 0).2
 have p1:=(zaA HR3.out 1).2
 have hrl:r<w3.heap.size:=lt_of_heap HR3.out
 cases hs:sane s with
 | false=>
  have HQ:Hid (R=(none_,1)):=HRR.out.symm.trans (kill_notsane hs)
  go_wp2_with fail
  obtain⟨f0,f1⟩:=zaH (store2 HR3.out (.slice none 0 0) (.slice none 0 0))
  have HF:=hid ((HB3.out.setCell (p:=⟨r,0,none⟩) HBR.out (.slice none 0 0)).setCell (p:=⟨r,1,none⟩) HBR.out (.slice none 0 0))
  generalize (w3.setCell ⟨r,0,none⟩ (.slice none 0 0)).setCell ⟨r,1,none⟩ (.slice none 0 0)=wf at *
  clear q0 q1 p0 p1
  rw[HQ.out]
  exact bodyPost_ret (v:=.tuple #[.agg #[.slice none 0 0,.slice none 0 0],.int .i64 1]) (by simp[results,Tryz.results66,go_sem,f0,f1]) rfl ⟨⟨_,_,_,_,_,_,rfl,StIs.none_ elD wf⟩,HF.out⟩
 | true=>
  have HS:=hid hs
  clear hs
  obtain⟨x0,x1⟩:=zaH HBX3.out
  have hbl:b<w3.heap.size:=lt_of_heap HBX3.out
  rcases last_cases s.cs with hcs | ⟨q,ctl,hcs⟩
  ·have hm0:m=0:=by
    have:=HNC.out
    rw[hcs] at this
    simpa using this.symm
   subst hm0
   have HQ:Hid (R=(none_,5)):=HRR.out.symm.trans (killS_none HS.out hcs)
   have t3:IntKind.i64.wrap (((0:Nat):Int) - 1) = -1:=by decide
   go_wp2_with fail
   obtain⟨f0,f1⟩:=zaH (store2 HR3.out (.slice none 0 0) (.slice none 0 0))
   have HF:=hid ((HB3.out.setCell (p:=⟨r,0,none⟩) HBR.out (.slice none 0 0)).setCell (p:=⟨r,1,none⟩) HBR.out (.slice none 0 0))
   generalize (w3.setCell ⟨r,0,none⟩ (.slice none 0 0)).setCell ⟨r,1,none⟩ (.slice none 0 0)=wf at *
   clear q0 q1 p0 p1 x0 x1
   rw[HQ.out]
   exact bodyPost_ret (v:=.tuple #[.agg #[.slice none 0 0,.slice none 0 0],.int .i64 5]) (by simp[results,Tryz.results66,go_sem,f0,f1]) rfl ⟨⟨_,_,_,_,_,_,rfl,StIs.none_ elD wf⟩,HF.out⟩
  ·have HQ:Hid (R=(⟨s.vals.take ctl.ht.toNat,q ++ [{ ctl with dead:=true }]⟩,0)):=HRR.out.symm.trans (killS_last HS.out hcs)
   have hm1:m=q.length+1:=by rw[<- HNC.out,hcs];simp
   have HHT:=hid (dead_len HS.out hcs)
   have HCS:=hid hcs
   obtain⟨k,hk⟩:∃k,q.length=k:=⟨_,rfl⟩
   have HK:=hid hk
   have hmk:m=k+1:=by omega
   subst hmk
   have t3:IntKind.i64.wrap (((k+1:Nat):Int) - 1)=(k:Int):=by rw[IntWalk.i64_in _ (by omega)];omega
   have t4:decide ((k:Int)<0)=false:=decide_eq_false (by omega)
   clear hcs hm1 hk q0 q1 p0 p1 hrl
   go_wp2_with fail
   clear x0 x1 hbl
   refine(copied_eo HV3.out HL1.out HL2.out).mono ?_
   rintro e w5 ⟨⟨P5,n5,c5,Q5,m5,d5,l,rfl,he1,he2,hml,hok,hck⟩,hb⟩
   have hcap:n5<=c5/\s.vals.length=n5:=by
    obtain⟨A,c',e,hc',_⟩:=(he1.row (T:=elB) hok).form
    injection e with _ e1 e2
    subst e1 e2
    exact⟨hc',rfl⟩
   have HBn:=hid (hb.trans ((zaB w5 (.cells #[.slice P5 n5 c5,.slice Q5 m5 d5] 30)).mono hb.size))
   have HB6:=hid (HB3.out.trans (HBn.out.mono HB3.out.size))
   have HE1:=hid (he1.keep (zaB w5 (.cells #[.slice P5 n5 c5,.slice Q5 m5 d5] 30)))
   have HE2:=hid (he2.keep (zaB w5 (.cells #[.slice P5 n5 c5,.slice Q5 m5 d5] 30)))
   have HO6:=hid (zaC w5 (.cells #[.slice P5 n5 c5,.slice Q5 m5 d5] 30))
   have HR6:=hid (blk HR3.out HBn.out)
   have HBX6:=hid (blk HBX3.out HBn.out)
   have HRC6:=hid (HRC3.out.keep HBn.out)
   have HML:=hid hml
   have HOK:=hid hok
   have HCK:=hid hck
   have HO5:Hid (w3.heap.size<=w5.heap.size):=hb.size
   have HR4l:Hid (r<w3.heap.size):=lt_of_heap HR3.out
   obtain⟨na,hna⟩:∃na:Nat,ctl.ht=(na:Int):=⟨_,HHT.out.symm⟩
   have HNA:Hid (ctl.ht.toNat=na):=hid (by rw[hna];rfl)
   have hnal:na<=n5:=by
    have e:=HHT.out
    rw[hna,List.length_take] at e
    omega
   obtain⟨pp,hpp,hpc⟩:∃pp,l0[k]? = some pp/\pp.1=ctl:=by
    have e:(l0.map (·.1))[k]? = some ctl:=by rw[HML0.out,HCS.out,<- HK.out];simp
    rw[List.getElem?_map] at e
    cases hq:l0[k]? with
    | none=>rw[hq] at e;cases e
    | some pp=>rw[hq] at e;exact⟨pp,rfl,Option.some.inj e⟩
   obtain⟨g,off,hQe,hg,k0,k1,k2,k3,hO⟩:=ctl_at HRC6.out hpp
   rw[hpc,hna] at k2
   subst hQe
   have HG:=hid hg
   have HK2:=hid k2
   have i1:(0:Int)<=(k:Int):=by omega
   have i2:(k:Int)<((k+1:Nat):Int):=by omega
   clear hb he1 he2 hml hok hck hpp hpc k0 k1 k2 k3 hO hg
   go_wp2_with fail
   generalize w5.alloc (.cells #[.slice P5 n5 c5,.slice Q5 m5 d5] 30)=w6 at *
   obtain⟨o,ho⟩:∃o,w5.heap.size=o:=⟨_,rfl⟩
   rw[ho] at HO6 HO5
   simp only[ho]
   clear ho
   refine Stab.region_tail 10 35 [.is (.pointer (some ⟨o,0,none⟩)),.is (.slice P5 n5 c5),.is (.pointer (some ⟨b,1,none⟩)),.is (.slice (some ⟨g,off,none⟩) (k+1) d),.is (.int .i64 (k:Int)),.is (.pointer (some ⟨g,off+k*4,none⟩)),.is (.pointer (some ⟨g,off+k*4+2,none⟩)),.is (.int .i64 (na:Int)),.is (.slice P5 na c5),.is (.pointer (some ⟨o,0,none⟩))] (by kernel_rfl) (by kernel_rfl) (by kernel_rfl) (by kernel_rfl) rfl rfl ?_ ?_
   ·simp only[List.take_succ_cons,List.take_zero]
    with_reducible refine Stab.zaF ?_ ?_ ?_
    ·exact Stab.owes_fieldAt rfl rfl (fun W=>run_fD0 _ W) rfl
    ·exact trivial
    with_reducible refine Stab.zaF ?_ ?_ ?_
    ·exact Stab.owes_load rfl (fun v W hb hv=>by subst hv;exact Stab.run_cellS _ _ _ _ _ W (zaH (blk HO6.out hb)).1) rfl
    ·exact trivial
    with_reducible refine Stab.zaF ?_ ?_ ?_
    ·exact Stab.owes_fieldAt rfl rfl (fun W=>run_fD1 _ W) rfl
    ·exact trivial
    with_reducible refine Stab.zaF ?_ ?_ ?_
    ·exact Stab.owes_load rfl (fun v W hb hv=>by subst hv;exact run_cellC _ _ _ _ _ W (zaH (blk HBX6.out hb)).2) rfl
    ·exact trivial
    with_reducible refine Stab.zaF ?_ ?_ ?_
    ·exact Stab.owes_move rfl rfl rfl
    ·exact trivial
    with_reducible refine Stab.zaF ?_ ?_ ?_
    ·exact Stab.owes_indexAt rfl rfl rfl (fun W=>run_idxD _ _ _ _ _ W i1 i2) rfl
    ·exact trivial
    with_reducible refine Stab.zaF ?_ ?_ ?_
    ·exact Stab.owes_fieldAt rfl rfl (fun W=>run_fCD2 _ _ W) rfl
    ·exact trivial
    with_reducible refine Stab.zaF ?_ ?_ ?_
    ·exact Stab.owes_load rfl (fun v W hb hv=>by subst hv;exact Stab.run_cellI _ _ _ W ((hb.cell (p:=⟨g,off+k*4+2,none⟩) HG.out).trans HK2.out)) rfl
    ·exact trivial
    with_reducible refine Stab.zaF ?_ ?_ ?_
    ·exact Stab.owes_upto rfl rfl rfl (fun W=>run_uptoB _ _ _ _ W (by have:=hcap.1;omega)) rfl
    ·exact trivial
    with_reducible refine Stab.zaF ?_ ?_ ?_
    ·exact Stab.owes_fieldAt rfl rfl (fun W=>run_fD0 _ W) rfl
    ·exact trivial
    exact Stab.steps_nil
   ·simp only[List.take_succ_cons,List.take_zero,List.drop_succ_cons,List.drop_zero]
    intro w7 hb7 _
    obtain⟨l1,l2,rfl,h1,h2⟩:=List.map_eq_append_iff.1 (HML.out.trans HCS.out)
    obtain⟨pl,rfl,hpl⟩:∃pl,l2 = [pl]/\pl.1=ctl:=by
     cases l2 with
     | nil=>simp at h2
     | cons a t=>
      simp only[List.map_cons,List.cons.injEq,List.map_eq_nil_iff] at h2
      exact⟨a,by rw[h2.2],h2.1⟩
    have hk1:l1.length=k:=by rw[<- HK.out,<- h1,List.length_map]
    have hown:Own elD w7 w3.heap.size (.slice Q5 m5 d5) (l1 ++ [pl]):=by
     rcases HE2.out.keep hb7 with ⟨a,_,e⟩ | h
     ·simp at e
     ·exact h
    have hwb:Below w3.heap.size w3 w7:=HBn.out.trans (hb7.mono HBn.out.size)
    have HRow:=Own.row hown (fun p hp=>(HCK.out p hp).keep hwb)
    obtain⟨_,hx⟩:=id hown
    rcases hx with ⟨hx,hx2⟩ | ⟨g5,cap,cur,hx,hB5,hc5,_⟩
    ·simp at hx2
    obtain⟨e1,e2,e3⟩:Q5=some ⟨g5,0,none⟩/\m5=(l1 ++ [pl]).length/\d5=cap:=by
     injection hx with e1 e2 e3
     exact⟨e1,e2,e3⟩
    have hm5:m5=k+1:=by rw[e2,List.length_append,hk1];rfl
    subst e1 e3
    subst hm5
    clear e2 hx
    obtain⟨g5',off5,e5,_,_,_,_,z3,_⟩:=ctl_at HRow (j:=k) (p:=pl) (by rw[<- hk1];simp)
    obtain⟨rfl,rfl⟩:g5=g5'/\0=off5:=by
     simp only[Option.some.injEq,Addr.mk.injEq,and_true] at e5
     exact e5
    rw[Nat.zero_add] at z3
    have zf:=(zaA hc5 (k*4+3)).2
    have ho7:=blk HO6.out hb7
    have hr7:=blk HR6.out hb7
    have hog:o≠g5:=by
     intro e
     subst e
     rw[hc5] at ho7
     simp only[Option.some.injEq,Obj.cells.injEq] at ho7
     exact absurd ho7.2.1 (by decide)
    have hgo:g5≠o:=Ne.symm hog
    have hrg:r≠g5:=by have:=HR4l.out;omega
    have hgr:g5≠r:=Ne.symm hrg
    have hro:r≠o:=by have:=HR4l.out;have:=HO5.out;omega
    have hor:o≠r:=Ne.symm hro
    have ho8:(w7.setCell ⟨o,0,none⟩ (.slice P5 na c5)).heap[o]? = some (.cells #[.slice P5 na c5,.slice (some ⟨g5,0,none⟩) (k+1) d5] 30 (0,0)):=by
     rw[zaE ho7]
     rfl
    have hc8:=chgT_low (o:=o) (i:=0) (u:=.slice P5 na c5) hc5 hgo
    have hr8:=chgT_low (o:=o) (i:=0) (u:=.slice P5 na c5) hr7 hro
    have hown8:Own elD (w7.setCell ⟨o,0,none⟩ (.slice P5 na c5)) w3.heap.size (.slice (some ⟨g5,0,none⟩) (k+1) d5) (l1 ++ [pl]):=own_stay hown fun k' hk'=>by
     obtain rfl:g5=k':=Option.some.inj hk'
     exact hc8.trans hc5.symm
    have hown9:=own_deadD hown8 hk1
    have hr9:=chgT_low (o:=g5) (i:=k*4+3) (u:=.bool true) hr8 hrg
    have HE11:=hid (((EO.of_own hown9).other (chgT_set (i:=0) (u:=.slice P5 na c5) hr9) (by decide)).other (chgT_set (i:=1) (u:=.slice (some ⟨g5,0,none⟩) (k+1) d5) (zaE hr9 _)) (by decide))
    have HE12:=hid ((((((HE1.out.keep hb7).take na hnal).other (chgT_set (i:=0) (u:=.slice P5 na c5) ho7) (by decide)).other (chgT_set (i:=k*4+3) (u:=.bool true) hc8) (by decide)).other (chgT_set (i:=0) (u:=.slice P5 na c5) hr9) (by decide)).other (chgT_set (i:=1) (u:=.slice (some ⟨g5,0,none⟩) (k+1) d5) (zaE hr9 _)) (by decide))
    have z38:(w7.setCell ⟨o,0,none⟩ (.slice P5 na c5)).cell? ⟨g5,k*4+3,none⟩=some (.bool pl.1.dead):=by
     rw[World.cell?_setCell_other _ _ _ _ (by intro e;exact hog (congrArg Addr.block e))]
     exact z3
    have HCK11:Hid (∀p∈l1 ++ [deadC pl],CtOk ((((w7.setCell ⟨o,0,none⟩ (.slice P5 na c5)).setCell ⟨g5,k*4+3,none⟩ (.bool true)).setCell ⟨r,0,none⟩ (.slice P5 na c5)).setCell ⟨r,1,none⟩ (.slice (some ⟨g5,0,none⟩) (k+1) d5)) p):=by
     have key:∀p∈l1 ++ [pl],CtOk ((((w7.setCell ⟨o,0,none⟩ (.slice P5 na c5)).setCell ⟨g5,k*4+3,none⟩ (.bool true)).setCell ⟨r,0,none⟩ (.slice P5 na c5)).setCell ⟨r,1,none⟩ (.slice (some ⟨g5,0,none⟩) (k+1) d5)) p:=fun p hp=>
      ctok_box (ctok_box (ctok_bool (ctok_box ((HCK.out p hp).keep hwb) ho7) z38) hr9) (zaE hr9 _)
     intro p hp
     rcases List.mem_append.1 hp with hp | hp
     ·exact key p (List.mem_append_left _ hp)
     ·obtain rfl:=List.mem_singleton.1 hp
      exact key pl (List.mem_append_right _ (List.mem_singleton.2 rfl))
    have HMF:Hid ((l1 ++ [deadC pl]).map (·.1)=q ++ [{ ctl with dead:=true }]):=by
     show _=_
     rw[List.map_append,h1,<- hpl]
     rfl
    obtain⟨f0,f1⟩:=zaH (store2 hr9 (.slice P5 na c5) (.slice (some ⟨g5,0,none⟩) (k+1) d5))
    have HF:=hid (((((HB6.out.trans (hb7.mono HB6.out.size)).setCell (p:=⟨o,0,none⟩) (Nat.le_trans HB3.out.size HO5.out) (.slice P5 na c5)).setCell (p:=⟨g5,k*4+3,none⟩) (Nat.le_trans HB3.out.size hB5) (.bool true)).setCell (p:=⟨r,0,none⟩) HBR.out (.slice P5 na c5)).setCell (p:=⟨r,1,none⟩) HBR.out (.slice (some ⟨g5,0,none⟩) (k+1) d5))
    obtain⟨o0,o1⟩:=zaH ho7
    have op0:=(zaA ho7 0).2
    obtain⟨q0,q1⟩:=zaH hr7
    have p0:=(zaA hr7 0).2
    have p1:=(zaA hr7 1).2
    have hol:o<w7.heap.size:=lt_of_heap ho7
    have hrl:r<w7.heap.size:=lt_of_heap hr7
    have hgl:g5<w7.heap.size:=lt_of_heap hc5
    clear hown hown8 hown9 ho8 hc8 hr8 hr9 ho7 hr7 hb7 hc5 HRow hwb hk1 h1 h2 e5 z38
    simp only[Act.put,List.setIfInBounds_toArray,List.set_cons_succ,List.set_cons_zero]
    go_wp2_with fail
    generalize (((w7.setCell ⟨o,0,none⟩ (.slice P5 na c5)).setCell ⟨g5,k*4+3,none⟩ (.bool true)).setCell ⟨r,0,none⟩ (.slice P5 na c5)).setCell ⟨r,1,none⟩ (.slice (some ⟨g5,0,none⟩) (k+1) d5)=wf at *
    clear q0 q1 p0 p1 o0 o1 op0 z3 zf
    rw[HQ.out]
    exact bodyPost_ret (v:=.tuple #[.agg #[.slice P5 na c5,.slice (some ⟨g5,0,none⟩) (k+1) d5],.int .i64 0]) (by simp[results,Tryz.results66,go_sem,f0,f1]) rfl ⟨⟨_,_,_,_,_,_,rfl,_,_,l1 ++ [deadC pl],rfl,(by rw[HNA.out];exact HE12.out.row (fun p hp=>HOK.out p (List.mem_of_mem_take hp))),HE11.out.row HCK11.out,HMF.out⟩,HF.out⟩
end Go.Proofs.YtlappkflnlbfcaaGreatDoor.Stk
end
