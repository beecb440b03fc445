/- BodTakeW, BodGone, BodNested. -/
import Derived.Test.YtlappkflnlbfcaaGreatDoorPkBodTurnD
import Derived.Deep.RegionLaw
import Derived.Deep.CutRange
section
namespace Go.Proofs.YtlappkflnlbfcaaGreatDoor.Bod
open Lib (hid)
open Go.RowKit Ints Typ Ins
set_option maxRecDepth 100000
set_option maxHeartbeats 2000000
set_option linter.unusedVariables false
theorem kd_opn (op:Int):(kd op == 2)=opn op:=by
 rw[Bool.eq_iff_iff]
 unfold kd opn
 simp only[beq_iff_eq,Bool.and_eq_true,decide_eq_true_eq]
 constructor
 ·intro h
  by_cases h1:2<=op/\op<=4
  ·exact h1
  ·rw[if_neg h1] at h
   exfalso
   repeat (first | (rw[if_pos (by assumption)] at h;omega) | omega | (split at h))
 ·intro h
  rw[if_pos h]
theorem step_J {ops:Array Oper}{o:Oper}{a:Act}{K:Act->World->Prop}{Q:Exit->Act->World->Prop}{E:Prop}(w:World)(hgd:o.guard=none)(s x:Operand)
  (ho:o.op= .call { callee:=.builtin .append,args:=#[s,x],argTypes:=#[23,23] }) (B:Nat) (v:Value) (done:List Int) (y:Int) (hs:a.eval s=v) (hown:OwnI w B v done)
  (hx:a.eval x= .slice (some ⟨w.heap.size,0,none⟩) 1 1) (hlen:done.length<=10000000) (hB:B<=w.heap.size)
  (h:∀v' w',OwnI w' B v' (done ++ [y])->Below B w w'->Chg w w' v.ownBlock->(v'.ownBlock=v.ownBlock\/∃g,v'.ownBlock=some g/\w.heap.size<=g)->K (a.put o.dst v') w'):if Region.wanted o (yielded ops a.tmps)=true then Oper.wp Tryz.prog o a (w.alloc (.cells #[.int .i64 y] 3)) K Q else E:=by
 have hw:Region.wanted o (yielded ops a.tmps)=true:=by simp[Region.wanted,hgd]
 rw[if_pos hw]
 obtain⟨v',w',hr,h1,hg,h3⟩:=run_oneI (w.alloc (.cells #[.int .i64 y] 3)) o.type B v done y (World.ownsRow.alloc hown _) ⟨w.heap.size,0,none⟩ (by rw[Typ.add_plain];simp) hlen (by simp;omega)
 unfold Oper.wp
 simp only[execOp,ho,resolve,invoke,builtin,Sem.run_bind,Sem.run_pure,Result.andThen_ok,List.map_toArray,List.map_cons,List.map_nil,hs,hx,hr]
 refine h v' w' h1 (((Below.refl _ _).alloc hB _).grown hg (by simp;omega) (fun k hk=>(World.ownsRow.lt hown k hk).1)) (fun k hk hne=>(hg.block k (by simp;omega) hne).trans (((Below.refl w.heap.size w).alloc (Nat.le_refl _) _).block k hk)) ?_
 rcases h3 with h3 | ⟨g,h3,h4⟩
 ·exact .inl h3
 ·exact .inr ⟨g,h3,by simp at h4;omega⟩
theorem ptake_any (op:Int){w0 w:World}{g:Nat}{vM vD vS:Value}{n:Nst}(hT:KTab w0)(hb:Below w0.heap.size w0 w)(h:NAt w w0.heap.size g vM vD vS n)(hok:NOk n)(hl:n.M.length<=100000)(hs:n.S.length<=90000):
  Calls Tryz.prog 162 #[.pointer (some ⟨g,0,none⟩),.int .i64 op] w (NTold w0.heap.size g vD (tk op n) w):=by
 have H:=hid h
 have HT:=hid hT
 have HB0:=hid hb
 have HOK:=hid hok
 have HS:=hid hs
 obtain⟨m,hm⟩:∃m,n.M.length=m:=⟨_,rfl⟩
 have HML:=hid hm
 obtain⟨PM,cM,hv⟩:=OwnP.form h.m
 rw[hm] at hv hl
 have HL:=hid hl
 subst hv
 obtain⟨kD,hkD⟩:∃k,n.D.length=k:=⟨_,rfl⟩
 have HDL:=hid (show kD=m from by rw[<- hkD,<- hm];exact hok.len)
 obtain⟨PD,cD,hvD⟩:=OwnI.form h.d
 rw[hkD] at hvD
 have HKD:=hid hkD
 clear hkD
 subst hvD
 have HM:=hid h.m
 obtain⟨c0,c1,c2,f0,f1,f2⟩:=h.cells
 clear hT hb h hok hs hm hl c1 c2 f1 f2
 go_enter Tryz.func162,Tryz.ntmps162
 go_wp2_with (at_builtin;refine wp_oneP 208 130 Tryz.underlying130 pmatch_info w rfl (.tmp 15) (.tmp 17) rfl w0.heap.size _ n.M (-1,-1) rfl HM.out rfl (by have:=HL.out;have:=HML.out;omega) HB0.out.size ?_;intro v1 w1 ho1 hb1 hc1;obtain ⟨P1,d1,hv1⟩:=OwnP.form ho1;rw[show (n.M ++ [((-1:Int),(-1:Int))]).length=m+1 from by simp[HML.out]] at hv1;subst hv1;obtain ⟨N1,F1,B1,cc1,ff1⟩:=H.out.pushM ho1 hb1 hc1;have HN1:=hid N1;have HF1:=hid F1;have HB1:=hid B1;clear N1 F1 B1 ho1 hb1 hc1 c0 f0)
 generalize (w1.setCell ⟨g,0,none⟩ (.slice P1 (m+1) d1))=w2 at *
 go_cut [] from 11 to 32 (fun wx=>∃vD',NAt wx w0.heap.size g (.slice P1 (m+1) d1) vD' vS (tk1 op n)/\NFr w (.slice PD kD cD) vD' wx/\Below w0.heap.size w wx)
 case first=>
  have HN2:=hid (HN1.out.keep (drewB w2))
  have HF2:=hid (HF1.out.trans (NFr.below (.slice PD kD cD) (drewB w2)))
  have HB2:=hid (HB1.out.trans (drewB' w2 (Nat.le_trans HN1.out.base (Nat.le_of_lt HN1.out.lt))))
  obtain⟨x0,x1,x2,y0,y1,y2⟩:=HN2.out.cells
  clear x0 x2 y0 y2
  have x1A:(w2.alloc (.cells #[.int .i64 (depO op ⟨n.M ++ [(-1,-1)],n.D,n.S⟩)] 3)).cell? ⟨g,1,none⟩=some (.slice PD kD cD):=Lib.cell?_alloc_some _ (show w2.cell? ⟨g,1,none⟩=_ from x1)
  go_region_law (first | (go_simp;go_at_call 171;refine (pdepth_any op HN2.out (by have:=HS.out;simp only;omega)).mono ?_;rintro en w6 ⟨rfl,rfl⟩) | (refine step_J w2.drew rfl (.tmp 25) (.tmp 29) rfl w0.heap.size _ n.D (depO op n) (by rfl) HN2.out.d (by rfl) (by have:=HL.out;have:=HDL.out;have:=HKD.out;omega) (Nat.le_trans HN1.out.base (Nat.le_of_lt HN1.out.lt)) ?_;intro v4 w4 ho4 hb4 hc4 hn4;obtain ⟨P4,d4,hv4⟩:=OwnI.form ho4;rw[show (n.D ++ [depO op n]).length=kD+1 from by simp[HKD.out]] at hv4;subst hv4;obtain ⟨N4,F4,B4,cc4,ff4⟩:=HN2.out.pushD ho4 hb4 hc4 hn4;have HN4:=hid N4;have HF4:=hid F4;have HB4:=hid B4;clear N4 F4 B4 ho4 hb4 hc4 hn4))
  all_goals (
   go_wp2_with fail
   go_meet
   case rel=>exact ⟨_,HN4.out,HF2.out.trans HF4.out,HB2.out.trans HB4.out⟩)
 case rest=>
  obtain⟨vD',hN,hF,hB⟩:=hcut
  have HN:=hid hN
  have HF:=hid hF
  have HB:=hid hB
  have HKW:=hid (HT.out.keep (HB0.out.trans hB))
  have HOK1:=hid (HOK.out.one op)
  have HS1:Hid ((tk1 op n).S.length<=100000):=by have:=HS.out;show n.S.length<=100000;omega
  have HLL:Hid (w0.heap.size<=wc.heap.size):=Nat.le_trans hN.base (Nat.le_of_lt hN.lt)
  clear hN hF hB
  go_wp2_with fail
  refine(kind_any op wc HKW.out).mono ?_
  rintro e w' ⟨rfl,rfl⟩
  have hkd:=kd_opn op
  cases ho:opn op with
  | true=>
   rw[ho] at hkd
   have HTK:Hid (tk op n=some ⟨(tk1 op n).M,(tk1 op n).D,n.S ++ [(op,n.M.length)]⟩):=by
    show _=_
    unfold tk
    rw[if_pos ho]
   obtain⟨PS,cS,hvS⟩:=HN.out.stk
   obtain⟨kS,hkS⟩:∃k,(tk1 op n).S.length=k:=⟨_,rfl⟩
   rw[hkS] at hvS
   have HKS:=hid hkS
   clear hkS ho
   subst hvS
   obtain⟨x0,x1,x2,y0,y1,y2⟩:=HN.out.cells
   clear x0 x1 y0 y1
   go_wp2_with (at_builtin;refine wp_oneP 210 155 Tryz.underlying155 pbegun_info wc rfl (.tmp 41) (.tmp 45) rfl w0.heap.size _ (prs (tk1 op n).S) (op,(m:Int)) rfl HN.out.s rfl (by have:=HS1.out;rw[prs_len];omega) HLL.out ?_;intro v5 w5 ho5 hb5 hc5;obtain ⟨P5,d5,hv5⟩:=OwnP.form ho5;rw[show (prs (tk1 op n).S ++ [(op,(m:Int))]).length=kS+1 from by rw[List.length_append,prs_len,HKS.out];rfl] at hv5;subst hv5;rw[show prs (tk1 op n).S ++ [(op,(m:Int))]=prs (n.S ++ [(op,n.M.length)]) from by rw[HML.out];simp[prs,tk1]] at ho5;obtain ⟨N5,F5,B5,cc5,ff5⟩:=HN.out.setS ho5 hb5 hc5;have HN5:=hid N5;have HF5:=hid F5;have HB5:=hid B5;clear N5 F5 B5 ho5 hb5 hc5)
   refine bodyPost_ret (v:=.bool true) (by simp[results,Tryz.results162,go_sem]) rfl ⟨_,_,_,_,by rw[HTK.out];rfl,fun m hm=>?_,HN5.out,HF.out.trans HF5.out,HB.out.trans HB5.out⟩
   rw[HTK.out] at hm
   exact Option.some.inj hm
  | false=>
   rw[ho] at hkd
   have hno:¬ opn op=true:=by rw[ho];decide
   cases h5:(op == 5) with
   | true=>
    have e5:op=5:=by simpa using h5
    have HTK:Hid (tk op n=tkTurn m (tk1 op n)):=by
     show _=_
     unfold tk
     rw[if_neg hno,if_pos e5,HML.out]
    clear ho hno e5
    go_wp2_with fail
    refine(pturn_any m HN.out HOK1.out HS1.out).mono ?_
    rintro e w' ⟨vM5,vD5,vS5,n5,rfl,hr5,N5,F5,B5⟩
    go_wp2_with fail
    exact bodyPost_ret (v:=.bool (tkTurn m (tk1 op n)).isSome) (by simp[results,Tryz.results162,go_sem]) rfl ⟨_,_,_,_,by rw[HTK.out],(by rw[HTK.out];exact hr5),N5,HF.out.trans F5,HB.out.trans B5⟩
   | false=>
    have e5:op≠5:=by simpa using h5
    cases h11:(op == 11) with
    | true=>
     have e11:op=11:=by simpa using h11
     have HTK:Hid (tk op n=tkEnd m (tk1 op n)):=by
      show _=_
      unfold tk
      rw[if_neg hno,if_neg e5,if_pos e11,HML.out]
     clear ho hno e5 e11
     go_wp2_with fail
     refine(pend_any m HN.out HOK1.out HS1.out).mono ?_
     rintro e w' ⟨vM5,vD5,vS5,n5,rfl,hr5,N5,F5,B5⟩
     go_wp2_with fail
     exact bodyPost_ret (v:=.bool (tkEnd m (tk1 op n)).isSome) (by simp[results,Tryz.results162,go_sem]) rfl ⟨_,_,_,_,by rw[HTK.out],(by rw[HTK.out];exact hr5),N5,HF.out.trans F5,HB.out.trans B5⟩
    | false=>
     have e11:op≠11:=by simpa using h11
     have HTK:Hid (tk op n=some (tk1 op n)):=by
      show _=_
      unfold tk
      rw[if_neg hno,if_neg e5,if_neg e11]
     clear ho hno e5 e11
     go_wp2_with fail
     exact bodyPost_ret (v:=.bool true) (by simp[results,Tryz.results162,go_sem]) rfl ⟨_,_,_,_,by rw[HTK.out];rfl,(by rw[HTK.out];exact fun m hm=>Option.some.inj hm),HN.out,HF.out,HB.out⟩
theorem tk_lens {op:Int}{n n':Nst}(h:tk op n=some n'):n'.M.length=n.M.length+1/\n'.S.length<=n.S.length+1:=by
 have hl:(tk1 op n).M.length=n.M.length+1:=by simp[tk1]
 unfold tk at h
 split at h
 ·obtain rfl:=Option.some.inj h
  exact⟨hl,by simp⟩
 ·split at h
  ·unfold tkTurn at h
   split at h
   ·cases h
   ·split at h
    ·cases h
    ·obtain rfl:=Option.some.inj h
     exact⟨by simp[hl],by simp[tk1]⟩
  ·split at h
   ·unfold tkEnd at h
    split at h
    ·cases h
    ·rename_i x hx
     obtain rfl:=Option.some.inj h
     refine⟨?_,by simp[tk1];omega⟩
     show (endM n.M.length x.2 (tk1 op n).M).length=_
     unfold endM
     split <;> simp[hl]
   ·obtain rfl:=Option.some.inj h
    exact⟨hl,by simp[tk1]⟩
theorem nst_lens {ops:List Int}:∀ {p:Nat} {n:Nst},nst ops p=some n->n.M.length=p/\n.S.length<=p
 | 0,n,h=>by
  obtain rfl:=Option.some.inj h
  exact⟨rfl,Nat.le_refl _⟩
 | p+1,n,h=>by
  have e:nst ops (p+1)=(nst ops p).bind fun n=>tk (ops.getD p 0) n:=rfl
  rw[e] at h
  cases h0:nst ops p with
  | none=>rw[h0] at h;cases h
  | some n0=>
   rw[h0] at h
   have ih:=nst_lens h0
   have:=tk_lens h
   omega
theorem nst_stop {ops : List Int} {i : Nat} (h : nst ops i = none) : ∀ j, i ≤ j → nst ops j = none
  | 0, hj => by obtain rfl : i = 0 := by omega
                cases h
  | j + 1, hj => by
    by_cases e : i = j + 1
    · subst e; exact h
    · have e2 : nst ops (j + 1) = (nst ops j).bind fun n => tk (ops.getD j 0) n := rfl
      rw [e2, nst_stop h j (by omega)]
      rfl
theorem own_far {w:World}{B e s n:Nat}{v:Value}{xs:List Value}(h:w.ownsRow B e s v n xs){p:Addr}(hp:p.block<B)(u:Value):(w.setCell p u).ownsRow B e s v n xs:=
 own_stay h fun k hk=>Below.heap_setCell _ _ _ _ (by have:=(World.ownsRow.lt h k hk).1;omega)
def GTold (l:List (Ins×Value))(w:World)(e:Ending)(w':World):Prop:=∃vM vD vS n1,e= .returned (.tuple #[.agg #[vM,vD,vS],.bool (nst (opsL l) l.length).isSome])/\(∀m,nst (opsL l) l.length=some m->n1=m)/\OwnP 208 w' w.heap.size vM n1.M/\OwnI w' w.heap.size vD n1.D/\OwnP 210 w' w.heap.size vS (prs n1.S)/\Below w.heap.size w w'
theorem zaC (w:World)(o:Obj):(w.alloc o).heap[w.heap.size]? = some o:=by
 show (w.heap.push o)[w.heap.size]? = some o
 simp
theorem zaD (w:World)(o:Obj):(w.alloc o).heap.size=w.heap.size+1:=by
 show (w.heap.push o).size=_
 simp
theorem NAt.new (w:World):NAt (w.alloc (.cells #[.slice none 0 0,.slice none 0 0,.slice none 0 0] 157)) w.heap.size w.heap.size (.slice none 0 0) (.slice none 0 0) (.slice none 0 0) ⟨[],[],[]⟩:=
 ⟨Nat.le_refl _,zaC _ _,ownP_nil _ _ _,ownI_nil _ _,ownP_nil _ _ _⟩
theorem gone_any {l:List (Ins×Value)}{A:Option Addr}{n c:Nat}{w:World}(hT:KTab w)(hn:l.length=n)(hbig:n<=80000)(hr:InRow w (.slice A n c) l):
  Calls Tryz.prog 136 #[.slice A n c] w (GTold l w):=by
 have HR:=hid hr
 have HN:=hid hn
 have HT:=hid hT
 clear hr hn hT
 go_enter Tryz.func136,Tryz.ntmps136
 go_wp2_with fail
 have HA:=hid ((Below.refl w.heap.size w).alloc (Nat.le_refl _) (.cells #[.slice none 0 0,.slice none 0 0,.slice none 0 0] 157))
 have HRES:Hid ((w.alloc (.cells #[.slice none 0 0,.slice none 0 0,.slice none 0 0] 157)).heap[w.heap.size]? = some (.cells #[.slice none 0 0,.slice none 0 0,.slice none 0 0] 157 (0,0))):=zaC _ _
 have HSZ:Hid ((w.alloc (.cells #[.slice none 0 0,.slice none 0 0,.slice none 0 0] 157)).heap.size=w.heap.size+1):=zaD _ _
 have HNEW:=hid (NAt.new (w.alloc (.cells #[.slice none 0 0,.slice none 0 0,.slice none 0 0] 157)))
 have HB0:=hid ((Below.refl (w.alloc (.cells #[.slice none 0 0,.slice none 0 0,.slice none 0 0] 157)).heap.size (w.alloc (.cells #[.slice none 0 0,.slice none 0 0,.slice none 0 0] 157))).alloc (Nat.le_refl _) (.cells #[.slice none 0 0,.slice none 0 0,.slice none 0 0] 157))
 have HIR:=hid ((HR.out.keep (HA.out.mono (Nat.le_refl _))))
 have HT0:=hid (HT.out.keep HA.out)
 clear HR HT
 generalize (w.alloc (.cells #[.slice none 0 0,.slice none 0 0,.slice none 0 0] 157))=w0 at *
 obtain⟨r,hr⟩:∃r,w.heap.size=r:=⟨_,rfl⟩
 have HR0:=hid hr
 rw[hr] at HRES HSZ ⊢
 have HNEW2:Hid (∀q,q=w0.heap.size->NAt (w0.alloc (.cells #[.slice none 0 0,.slice none 0 0,.slice none 0 0] 157)) w0.heap.size q (.slice none 0 0) (.slice none 0 0) (.slice none 0 0) ⟨[],[],[]⟩):=fun q hq=>hq ▸ HNEW.out
 clear hr
 go_loopw [9] (fun i' wr=>∃ (i:Nat) (vM vD vS:Value) (n1:Nst),i'= .int .i64 (i:Int)/\i<=n/\nst (opsL l) i=some n1/\NAt wr w0.heap.size (r+1) vM vD vS n1/\Below w0.heap.size w0 wr) (fun i' _=>n - (intOf i').toNat)
 case atStart=>exact ⟨0,_,_,_,_,by go_num,Nat.zero_le _,rfl,HNEW2.out _ HSZ.out.symm,HB0.out⟩
 case round=>
  clear HNEW HNEW2 HB0
  obtain⟨i,vM,vD,vS,n1,rfl,hi,hn1,hN,hB⟩:=hrel
  have HN1:=hid hN
  have HB1:=hid hB
  have HNS:=hid hn1
  have hRS:=(hB.block r (by have:=HSZ.out;omega)).trans HRES.out
  have HRW:=hid hRS
  clear hN hB hn1 hRS
  by_cases hlt:i<n
  ·obtain ⟨y,hy⟩:∃y,l[i]? = some y:=⟨_,List.getElem?_eq_getElem (by rw[HN.out];exact hlt)⟩
   obtain⟨g,off,rfl,hC,hO⟩:=(HIR.out.keep HB1.out).at_ hy
   have HG:=hid (opsL_get hy)
   obtain⟨PL,cL,hpo,_⟩:=id hO.1
   obtain⟨x,ov⟩:=y
   simp only at hpo
   obtain⟨nL,hnL⟩:∃nL,x.L.length=nL:=⟨_,rfl⟩
   rw[hnL] at hpo
   subst hpo
   clear hy hnL hO
   obtain⟨q1,q2,q3,q4,q5⟩:=hC
   simp only at q1 q2 q3 q4 q5
   have hin1:(0:Int)<=(i:Int):=by omega
   have hin2:(i:Int)<(n:Int):=by omega
   have hw1:IntKind.i64.wrap ((i:Int)+1)=(i:Int)+1:=IntWalk.i64_in _ (by omega)
   have HLN:=hid (nst_lens HNS.out)
   have HOK:=hid (nst_ok (opsL l) HNS.out)
   have HSTEP:Hid (nst (opsL l) (i+1)=tk x.op n1):=by
    show _=_
    have e:nst (opsL l) (i+1)=(nst (opsL l) i).bind fun n=>tk ((opsL l).getD i 0) n:=rfl
    rw[e,HNS.out,HG.out]
    rfl
   have HWL:Hid (w0.heap.size<=wr.heap.size):=HB1.out.size
   go_wp2_with fail
   have HB2:=hid (HB1.out.alloc HWL.out (.cells #[.int .i64 x.op,.int .i64 x.A,.int .i64 x.B,.int .u64 x.K,.slice PL nL cL] 33))
   have HN2:=hid (HN1.out.keep ((Below.refl wr.heap.size wr).alloc (Nat.le_refl _) (.cells #[.int .i64 x.op,.int .i64 x.A,.int .i64 x.B,.int .u64 x.K,.slice PL nL cL] 33)))
   clear q1 q2 q3 q4 q5
   refine(ptake_any x.op HT0.out HB2.out HN2.out HOK.out (by have:=HLN.out;omega) (by have:=HLN.out;omega)).mono ?_
   rintro en w3 ⟨vM3,vD3,vS3,n3,rfl,hr3,N3,F3,B3⟩
   have HN3:=hid N3
   have HB3:=hid (HB2.out.trans B3)
   have HR3:=hid hr3
   clear hr3 N3 F3 B3
   cases htk:tk x.op n1 with
   | none=>
    have HNO:Hid (nst (opsL l) l.length=none):=by
     refine nst_stop (i:=i+1) ?_ _ (by rw[HN.out];exact hlt)
     rw[HSTEP.out,htk]
    clear htk
    obtain⟨Q0,k0,e0,rfl⟩:∃P k c,vM3= .slice P k c:=by
     obtain⟨P,c,e⟩:=OwnP.form HN3.out.m
     exact⟨P,_,c,e⟩
    obtain⟨Q1,k1,e1,rfl⟩:∃P k c,vD3= .slice P k c:=by
     obtain⟨P,c,e⟩:=OwnI.form HN3.out.d
     exact⟨P,_,c,e⟩
    obtain⟨Q2,k2,e2,rfl⟩:∃P k c,vS3= .slice P k c:=by
     obtain⟨P,c,e⟩:=OwnP.form HN3.out.s
     exact⟨P,_,c,e⟩
    obtain⟨c0,c1,c2,_,_,_⟩:=HN3.out.cells
    have hRS:=(HB3.out.block r (by have:=HSZ.out;omega)).trans HRES.out
    have z0:w3.cell? ⟨r,0,none⟩=some (.slice none 0 0):=(zaA hRS 0).1
    have y0:w3.frozen? ⟨r,0,none⟩=false:=(zaA hRS 0).2
    have z1:w3.cell? ⟨r,1,none⟩=some (.slice none 0 0):=(zaA hRS 1).1
    have y1:w3.frozen? ⟨r,1,none⟩=false:=(zaA hRS 1).2
    have z2:w3.cell? ⟨r,2,none⟩=some (.slice none 0 0):=(zaA hRS 2).1
    have y2:w3.frozen? ⟨r,2,none⟩=false:=(zaA hRS 2).2
    clear hRS
    have HLO:Hid (w.heap.size<=w0.heap.size):=HA.out.size
    have HRR:Hid (r<w0.heap.size):=by have:=HSZ.out;show _<_;omega
    have HRQ:Hid (w.heap.size<=r):=Nat.le_of_eq HR0.out
    go_wp2_with fail
    refine bodyPost_ret (v:=.tuple #[.agg #[.slice Q0 k0 e0,.slice Q1 k1 e1,.slice Q2 k2 e2],.bool false]) (by simp[results,Tryz.results136,go_sem,z0,z1,z2]) rfl ⟨_,_,_,n3,by rw[HNO.out];rfl,(by rw[HNO.out];exact fun m hm=>by cases hm),?_,?_,?_,?_⟩
    ·exact own_low (own_far (own_far (own_far HN3.out.m HRR.out _) HRR.out _) HRR.out _) HLO.out
    ·exact own_low (own_far (own_far (own_far HN3.out.d HRR.out _) HRR.out _) HRR.out _) HLO.out
    ·exact own_low (own_far (own_far (own_far HN3.out.s HRR.out _) HRR.out _) HRR.out _) HLO.out
    ·exact (((HA.out.trans (HB3.out.mono HLO.out)).setCell (p:=⟨r,0,none⟩) HRQ.out _).setCell (p:=⟨r,1,none⟩) HRQ.out _).setCell (p:=⟨r,2,none⟩) HRQ.out _
   | some n4=>
    obtain rfl:=HR3.out _ htk
    have HNX:Hid (nst (opsL l) (i+1)=some n3):=HSTEP.out.trans htk
    clear htk
    go_wp2_with fail
    go_roundw
    case rel=>exact ⟨i+1,_,_,_,_,by go_num,hlt,HNX.out,HN3.out,HB3.out⟩
    case measure=>simp[intOf];omega
  ·have hin:i=n:=by omega
   subst hin
   have HNO:Hid (nst (opsL l) l.length=some n1):=by
    show _=_
    rw[HN.out]
    exact HNS.out
   have HN3:=HN1
   have HB3:=HB1
   obtain⟨Q0,k0,e0,rfl⟩:∃P k c,vM= .slice P k c:=by
    obtain⟨P,c,e⟩:=OwnP.form HN3.out.m
    exact⟨P,_,c,e⟩
   obtain⟨Q1,k1,e1,rfl⟩:∃P k c,vD= .slice P k c:=by
    obtain⟨P,c,e⟩:=OwnI.form HN3.out.d
    exact⟨P,_,c,e⟩
   obtain⟨Q2,k2,e2,rfl⟩:∃P k c,vS= .slice P k c:=by
    obtain⟨P,c,e⟩:=OwnP.form HN3.out.s
    exact⟨P,_,c,e⟩
   obtain⟨c0,c1,c2,_,_,_⟩:=HN3.out.cells
   have hRS:=HRW.out
   have z0:wr.cell? ⟨r,0,none⟩=some (.slice none 0 0):=(zaA hRS 0).1
   have y0:wr.frozen? ⟨r,0,none⟩=false:=(zaA hRS 0).2
   have z1:wr.cell? ⟨r,1,none⟩=some (.slice none 0 0):=(zaA hRS 1).1
   have y1:wr.frozen? ⟨r,1,none⟩=false:=(zaA hRS 1).2
   have z2:wr.cell? ⟨r,2,none⟩=some (.slice none 0 0):=(zaA hRS 2).1
   have y2:wr.frozen? ⟨r,2,none⟩=false:=(zaA hRS 2).2
   clear hRS
   have HLO:Hid (w.heap.size<=w0.heap.size):=HA.out.size
   have HRR:Hid (r<w0.heap.size):=by have:=HSZ.out;show _<_;omega
   have HRQ:Hid (w.heap.size<=r):=Nat.le_of_eq HR0.out
   go_wp2_with fail
   refine bodyPost_ret (v:=.tuple #[.agg #[.slice Q0 k0 e0,.slice Q1 k1 e1,.slice Q2 k2 e2],.bool true]) (by simp[results,Tryz.results136,go_sem,z0,z1,z2]) rfl ⟨_,_,_,n1,by rw[HNO.out];rfl,(by rw[HNO.out];exact fun m hm=>Option.some.inj hm),?_,?_,?_,?_⟩
   ·exact own_low (own_far (own_far (own_far HN3.out.m HRR.out _) HRR.out _) HRR.out _) HLO.out
   ·exact own_low (own_far (own_far (own_far HN3.out.d HRR.out _) HRR.out _) HRR.out _) HLO.out
   ·exact own_low (own_far (own_far (own_far HN3.out.s HRR.out _) HRR.out _) HRR.out _) HLO.out
   ·exact (((HA.out.trans (HB3.out.mono HLO.out)).setCell (p:=⟨r,0,none⟩) HRQ.out _).setCell (p:=⟨r,1,none⟩) HRQ.out _).setCell (p:=⟨r,2,none⟩) HRQ.out _
def PNest (l:List (Ins×Value))(w:World)(e:Ending)(w':World):Prop:=
 (match dM (opsL l) with
  | none=>e= .returned (.tuple #[.agg #[.slice none 0 0,.slice none 0 0,.slice none 0 0],.bool false])
  | some ms=>∃vM vD vS,e= .returned (.tuple #[.agg #[vM,vD,vS],.bool true])/\OwnP 208 w' w.heap.size vM ms/\OwnI w' w.heap.size vD (depL (opsL l) l.length)/\OwnP 210 w' w.heap.size vS [])/\Below w.heap.size w w'
theorem dM_not {ops:List Int}(h:¬ Nested ops):dM ops=none:=by
 cases hd:dM ops with
 | none=>rfl
 | some ms=>exact absurd (dM_nested hd) h
theorem nested_any {l:List (Ins×Value)}{A:Option Addr}{n c:Nat}{w:World}(hT:KTab w)(hn:l.length=n)(hbig:n<=80000)(hr:InRow w (.slice A n c) l):
  Calls Tryz.prog 104 #[.slice A n c] w (PNest l w):=by
 have HR:=hid hr
 have HN:=hid hn
 have HT:=hid hT
 clear hr hn hT
 go_enter Tryz.func104,Tryz.ntmps104
 go_wp2_with fail
 have HA:=hid ((Below.refl w.heap.size w).alloc (Nat.le_refl _) (.cells #[.slice none 0 0,.slice none 0 0,.slice none 0 0] 157))
 have HRES:Hid ((w.alloc (.cells #[.slice none 0 0,.slice none 0 0,.slice none 0 0] 157)).heap[w.heap.size]? = some (.cells #[.slice none 0 0,.slice none 0 0,.slice none 0 0] 157 (0,0))):=zaC _ _
 have HSZ:Hid ((w.alloc (.cells #[.slice none 0 0,.slice none 0 0,.slice none 0 0] 157)).heap.size=w.heap.size+1):=zaD _ _
 have HIR:=hid (HR.out.keep HA.out)
 have HT0:=hid (HT.out.keep HA.out)
 clear HR HT
 generalize (w.alloc (.cells #[.slice none 0 0,.slice none 0 0,.slice none 0 0] 157))=w0 at *
 obtain⟨r,hr⟩:∃r,w.heap.size=r:=⟨_,rfl⟩
 have HR0:=hid hr
 rw[hr] at HRES HSZ ⊢
 clear hr
 refine(gone_any HT0.out HN.out hbig HIR.out).mono ?_
 rintro e w2 ⟨vM,vD,vS,n1,rfl,hn1,oM,oD,oS,hb⟩
 have HB2:=hid hb
 have HN1:=hid hn1
 obtain⟨P0,e0,hv0⟩:=OwnP.form oM
 obtain⟨P1,e1,hv1⟩:=OwnI.form oD
 obtain⟨P2,e2,hv2⟩:=OwnP.form oS
 rw[prs_len] at hv2
 obtain⟨k0,hk0⟩:∃k,n1.M.length=k:=⟨_,rfl⟩
 obtain⟨k1,hk1⟩:∃k,n1.D.length=k:=⟨_,rfl⟩
 obtain⟨k2,hk2⟩:∃k,n1.S.length=k:=⟨_,rfl⟩
 rw[hk0] at hv0
 rw[hk1] at hv1
 rw[hk2] at hv2
 subst hv0 hv1 hv2
 have HK2:=hid hk2
 have HLO:Hid (w.heap.size<=w0.heap.size):=HA.out.size
 have HRR:Hid (r<w0.heap.size):=by have:=HSZ.out;show _<_;omega
 have HRQ:Hid (w.heap.size<=r):=Nat.le_of_eq HR0.out
 have HB3:=hid (hb.alloc hb.size (.cells #[.slice P0 k0 e0,.slice P1 k1 e1,.slice P2 k2 e2] 157))
 have HOM:=hid (World.ownsRow.alloc oM (.cells #[.slice P0 k0 e0,.slice P1 k1 e1,.slice P2 k2 e2] 157))
 have HOD:=hid (World.ownsRow.alloc oD (.cells #[.slice P0 k0 e0,.slice P1 k1 e1,.slice P2 k2 e2] 157))
 have HOS:=hid (World.ownsRow.alloc oS (.cells #[.slice P0 k0 e0,.slice P1 k1 e1,.slice P2 k2 e2] 157))
 have hRS:=(HB3.out.block r HRR.out).trans HRES.out
 have z0:(w2.alloc (.cells #[.slice P0 k0 e0,.slice P1 k1 e1,.slice P2 k2 e2] 157)).cell? ⟨r,0,none⟩=some (.slice none 0 0):=(zaA hRS 0).1
 have y0:(w2.alloc (.cells #[.slice P0 k0 e0,.slice P1 k1 e1,.slice P2 k2 e2] 157)).frozen? ⟨r,0,none⟩=false:=(zaA hRS 0).2
 have z1:(w2.alloc (.cells #[.slice P0 k0 e0,.slice P1 k1 e1,.slice P2 k2 e2] 157)).cell? ⟨r,1,none⟩=some (.slice none 0 0):=(zaA hRS 1).1
 have y1:(w2.alloc (.cells #[.slice P0 k0 e0,.slice P1 k1 e1,.slice P2 k2 e2] 157)).frozen? ⟨r,1,none⟩=false:=(zaA hRS 1).2
 have z2:(w2.alloc (.cells #[.slice P0 k0 e0,.slice P1 k1 e1,.slice P2 k2 e2] 157)).cell? ⟨r,2,none⟩=some (.slice none 0 0):=(zaA hRS 2).1
 have y2:(w2.alloc (.cells #[.slice P0 k0 e0,.slice P1 k1 e1,.slice P2 k2 e2] 157)).frozen? ⟨r,2,none⟩=false:=(zaA hRS 2).2
 clear hRS hb hn1 oM oD oS hk0 hk1 hk2
 have HBW:=hid (HA.out.trans (HB3.out.mono HLO.out))
 cases hq:nst (opsL l) l.length with
 | none=>
  have HD:Hid (dM (opsL l)=none):=dM_not (nst_none (by rw[opsL_len];exact hq))
  clear hq
  go_wp2_with fail
  refine bodyPost_ret (v:=.tuple #[.agg #[.slice none 0 0,.slice none 0 0,.slice none 0 0],.bool false]) (by simp[results,Tryz.results104,go_sem,z0,z1,z2]) rfl ⟨by rw[HD.out],?_⟩
  exact((HBW.out.setCell (p:=⟨r,0,none⟩) HRQ.out _).setCell (p:=⟨r,1,none⟩) HRQ.out _).setCell (p:=⟨r,2,none⟩) HRQ.out _
 | some m1=>
  obtain rfl:=HN1.out _ hq
  cases k2 with
  | succ k2=>
   have HD:Hid (dM (opsL l)=none):=dM_not (fun hN=>by
    have h1:=(nst_nested (ops:=opsL l) (n:=n1) (by rw[opsL_len];exact hq)).2 hN
    have h2:=HK2.out
    rw[h1] at h2
    cases h2)
   have t1:decide ((0:Int)<((k2+1:Nat):Int))=true:=decide_eq_true (by omega)
   have t2:decide ((0:Int)<(k2:Int)+1)=true:=decide_eq_true (by omega)
   clear hq
   go_wp2_with fail
   refine bodyPost_ret (v:=.tuple #[.agg #[.slice none 0 0,.slice none 0 0,.slice none 0 0],.bool false]) (by simp[results,Tryz.results104,go_sem,z0,z1,z2]) rfl ⟨by rw[HD.out],?_⟩
   exact((HBW.out.setCell (p:=⟨r,0,none⟩) HRQ.out _).setCell (p:=⟨r,1,none⟩) HRQ.out _).setCell (p:=⟨r,2,none⟩) HRQ.out _
  | zero=>
   have hN:Nested (opsL l):=(nst_nested (ops:=opsL l) (n:=n1) (by rw[opsL_len];exact hq)).1 (List.length_eq_zero_iff.1 HK2.out)
   obtain⟨ms,hms,hall⟩:=nst_all hN
   rw[opsL_len] at hall
   have hall:=Option.some.inj (hq.symm.trans hall)
   subst hall
   have HD:=hid hms
   clear hq hN hms
   go_wp2_with fail
   refine bodyPost_ret (v:=.tuple #[.agg #[.slice P0 k0 e0,.slice P1 k1 e1,.slice P2 0 e2],.bool true]) (by simp[results,Tryz.results104,go_sem,z0,z1,z2]) rfl ⟨?_,?_⟩
   ·rw[HD.out]
    refine⟨_,_,_,rfl,?_,?_,?_⟩
    ·exact own_low (own_far (own_far (own_far HOM.out HRR.out _) HRR.out _) HRR.out _) HLO.out
    ·exact own_low (own_far (own_far (own_far HOD.out HRR.out _) HRR.out _) HRR.out _) HLO.out
    ·exact own_low (own_far (own_far (own_far HOS.out HRR.out _) HRR.out _) HRR.out _) HLO.out
   ·exact ((HBW.out.setCell (p:=⟨r,0,none⟩) HRQ.out _).setCell (p:=⟨r,1,none⟩) HRQ.out _).setCell (p:=⟨r,2,none⟩) HRQ.out _
def PMat (l:List (Ins×Value))(w:World)(e:Ending)(w':World):Prop:=
 (match dM (opsL l) with
  | none=>e= .returned (.tuple #[.slice none 0 0,.bool false])
  | some ms=>∃vM,e= .returned (.tuple #[vM,.bool true])/\OwnP 208 w' w.heap.size vM ms)/\Below w.heap.size w w'
theorem matches_any {l:List (Ins×Value)}{A:Option Addr}{n c:Nat}{w:World}(hT:KTab w)(hn:l.length=n)(hbig:n<=80000)(hr:InRow w (.slice A n c) l):
  Calls Tryz.prog 76 #[.slice A n c] w (PMat l w):=by
 have HC:=hid (nested_any hT hn hbig hr)
 clear hT hn hr
 go_enter Tryz.func76,Tryz.ntmps76
 go_wp2_with fail
 refine HC.out.mono ?_
 rintro e w1 ⟨hres,hb⟩
 have HB:=hid hb
 clear HC hb
 cases hd:dM (opsL l) with
 | none=>
  rw[hd] at hres
  obtain rfl:=hres
  have HD:=hid hd
  clear hd
  go_wp2_with fail
  exact bodyPost_ret (v:=.tuple #[.slice none 0 0,.bool false]) (by simp[results,Tryz.results76,go_sem]) rfl ⟨by rw[HD.out],HB.out.alloc HB.out.size _⟩
 | some ms=>
  rw[hd] at hres
  obtain⟨vM,vD,vS,rfl,oM,oD,oS⟩:=hres
  have HO:=hid oM
  obtain⟨P0,e0,hv0⟩:=OwnP.form oM
  obtain⟨P1,e1,hv1⟩:=OwnI.form oD
  obtain⟨P2,e2,hv2⟩:=OwnP.form oS
  obtain⟨k0,hk0⟩:∃k,ms.length=k:=⟨_,rfl⟩
  obtain⟨k1,hk1⟩:∃k,(depL (opsL l) l.length).length=k:=⟨_,rfl⟩
  rw[hk0] at hv0
  rw[hk1] at hv1
  subst hv0 hv1 hv2
  have HD:=hid hd
  clear hd oM oD oS hk0 hk1
  go_wp2_with fail
  exact bodyPost_ret (v:=.tuple #[.slice P0 k0 e0,.bool true]) (by simp[results,Tryz.results76,go_sem]) rfl ⟨by rw[HD.out];exact⟨_,rfl,World.ownsRow.alloc HO.out _⟩,HB.out.alloc HB.out.size _⟩
end Go.Proofs.YtlappkflnlbfcaaGreatDoor.Bod
end
