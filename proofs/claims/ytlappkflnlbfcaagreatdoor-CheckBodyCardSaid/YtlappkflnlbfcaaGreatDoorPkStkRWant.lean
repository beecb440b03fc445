/- StkRPop, StkRWant. -/
import Derived.Test.YtlappkflnlbfcaaGreatDoorPkStkRKill
import Derived.Test.YtlappkflnlbfcaaGreatDoorPkStabM
section
namespace Go.Proofs.YtlappkflnlbfcaaGreatDoor.Stk
open Lib (hid)
open Go.RowKit Row9
set_option maxRecDepth 100000
set_option maxHeartbeats 4000000
set_option linter.unusedVariables false
def RPop (r:Stk×Int×Int)(w:World)(e:Ending)(w':World):Prop:=(∃P n c Q m d,e= .returned (.tuple #[.agg #[.slice P n c,.slice Q m d],.int .u8 r.2.1,.int .i64 r.2.2])/\StIs elD w' (.agg #[.slice P n c,.slice Q m d]) r.1)/\Below w.heap.size w w'
theorem pop_notsane {s:Stk}(h:sane s=false):popS s=(none_,0,1):=by unfold popS;rw[if_pos h]
theorem pop_empty {s:Stk}(h:sane s=true)(hc:s.cs = []):popS s=(none_,0,5):=by
 unfold popS
 rw[if_neg (by rw[h];decide),hc]
 rfl
theorem pop_last {s:Stk}{q:List Ctl}{c:Ctl}(h:sane s=true)(hc:s.cs=q ++ [c]):popS s=match popV (some c) s.vals with
 | none=>(none_,0,5)
 | some (vs,v)=>(⟨vs,s.cs⟩,v,0):=by
 unfold popS
 rw[if_neg (by rw[h];decide),hc,List.getLast?_concat]
 rfl
theorem pop_taken {s:Stk}{q:List Ctl}{c:Ctl}(h:sane s=true)(hc:s.cs=q ++ [c])(hl:c.ht<s.vals.length):popS s=(⟨s.vals.dropLast,s.cs⟩,s.vals.getLastD 0,0):=by
 rw[pop_last h hc,popV_some hl]
theorem pop_dead {s:Stk}{q:List Ctl}{c:Ctl}(h:sane s=true)(hc:s.cs=q ++ [c])(hl:¬ c.ht<s.vals.length)(hd:c.dead=true):popS s=(s,0,0):=by
 rw[pop_last h hc,popV_dead hl hd]
theorem pop_fail {s:Stk}{q:List Ctl}{c:Ctl}(h:sane s=true)(hc:s.cs=q ++ [c])(hl:¬ c.ht<s.vals.length)(hd:c.dead=false):popS s=(none_,0,5):=by
 rw[pop_last h hc,popV_no hl hd]
theorem rpop_any {v:Value}{s:Stk}{w:World}(h:StIs elD w v s)(h1:s.vals.length<=400000)(h2:s.cs.length<=400000):
  Calls Tryz.prog 103 #[v] w (RPop (popS s) w):=by
 obtain⟨P,np,cp,Q,m,d,rfl⟩:=StIs.form (T:=elD) h
 obtain⟨l0,hrb0,hrc0,hml0,hnv,hnl0,hnc⟩:=h.rows
 have HB2:=hid (below2 w (.cells #[.slice P np cp,.slice Q m d] 30) (.cells #[.slice none 0 0,.slice none 0 0] 30))
 have HBX:=hid (blk (zaC w (.cells #[.slice P np cp,.slice Q m d] 30)) (zaB (w.alloc (.cells #[.slice P np cp,.slice Q m d] 30)) (.cells #[.slice none 0 0,.slice none 0 0] 30)))
 have HR:=hid (zaC (w.alloc (.cells #[.slice P np cp,.slice Q m d] 30)) (.cells #[.slice none 0 0,.slice none 0 0] 30))
 have HV:=hid (h.keep HB2.out)
 simp only[zaD] at HR
 have HL1:=hid h1
 have HL2:=hid h2
 have HNC:=hid hnc
 have HNV:=hid hnv
 have HRC0:=hid (hrc0.keep HB2.out)
 have HRB0:=hid (hrb0.keep HB2.out)
 have HML0:=hid hml0
 obtain⟨R,hR⟩:∃R,popS s=R:=⟨_,rfl⟩
 have HRR:=hid hR
 rw[hR]
 have hbig:m<=400000:=by omega
 have hbigv:np<=400000:=by omega
 clear h h1 h2 hR hrb0 hrc0 hml0 hnv hnl0 hnc
 go_enter Tryz.func103,Tryz.ntmps103
 go_wp2_with fail
 generalize ((w.alloc (.cells #[.slice P np cp,.slice Q m d] 30)).alloc (.cells #[.slice none 0 0,.slice none 0 0] 30))=w2 at *
 obtain⟨b,hb0⟩:∃b,w.heap.size=b:=⟨_,rfl⟩
 obtain⟨r,hr0⟩:∃r,b+1=r:=⟨_,rfl⟩
 have HBR:Hid (w.heap.size<=r):=hid (by omega)
 have HBN:Hid (b≠r):=hid (by omega)
 have HBB:Hid (w.heap.size<=b):=hid (by omega)
 rw[hb0] at HBX HR
 rw[hr0] at HR
 simp only[hb0]
 simp only[hr0]
 clear hb0 hr0
 refine(rsane_any HV.out).mono ?_
 rintro e w3 ⟨rfl,hb⟩
 have HB3:=hid (HB2.out.trans (hb.mono HB2.out.size))
 have HV3:=hid (HV.out.keep hb)
 have HRC3:=hid (HRC0.out.keep hb)
 have HRB3:=hid (HRB0.out.keep hb)
 have HBX3:=hid (blk HBX.out hb)
 have HR3:=hid (blk HR.out hb)
 clear hb HV HBX HR HB2 HRC0 HRB0
 obtain⟨q0,q1⟩:=zaH HR3.out
 have p0:=(zaA HR3.out 0).2
 have p1:=(zaA HR3.out 1).2
 have hrl:r<w3.heap.size:=lt_of_heap HR3.out
 cases hs:sane s with
 | false=>
  have HQ:Hid (R=(none_,0,1)):=HRR.out.symm.trans (pop_notsane hs)
  go_wp2_with fail
  obtain⟨f0,f1⟩:=zaH (store2 HR3.out (.slice none 0 0) (.slice none 0 0))
  have HF:=hid ((HB3.out.setCell (p:=⟨r,0,none⟩) HBR.out (.slice none 0 0)).setCell (p:=⟨r,1,none⟩) HBR.out (.slice none 0 0))
  generalize (w3.setCell ⟨r,0,none⟩ (.slice none 0 0)).setCell ⟨r,1,none⟩ (.slice none 0 0)=wf at *
  clear q0 q1 p0 p1
  rw[HQ.out]
  exact bodyPost_ret (v:=.tuple #[.agg #[.slice none 0 0,.slice none 0 0],.int .u8 0,.int .i64 1]) (by simp[results,Tryz.results103,go_sem,f0,f1]) rfl ⟨⟨_,_,_,_,_,_,rfl,StIs.none_ elD wf⟩,HF.out⟩
 | true=>
  have HS:=hid hs
  clear hs
  obtain⟨x0,x1⟩:=zaH HBX3.out
  have hbl:b<w3.heap.size:=lt_of_heap HBX3.out
  rcases last_cases s.cs with hcs | ⟨q,ctl,hcs⟩
  ·have hm0:m=0:=by
    have:=HNC.out
    rw[hcs] at this
    simpa using this.symm
   subst hm0
   have t3:IntKind.i64.wrap (((0:Nat):Int) - 1) = -1:=by decide
   have HQ:Hid (R=(none_,0,5)):=HRR.out.symm.trans (pop_empty HS.out hcs)
   go_wp2_with fail
   obtain⟨f0,f1⟩:=zaH (store2 HR3.out (.slice none 0 0) (.slice none 0 0))
   have HF:=hid ((HB3.out.setCell (p:=⟨r,0,none⟩) HBR.out (.slice none 0 0)).setCell (p:=⟨r,1,none⟩) HBR.out (.slice none 0 0))
   generalize (w3.setCell ⟨r,0,none⟩ (.slice none 0 0)).setCell ⟨r,1,none⟩ (.slice none 0 0)=wf at *
   clear q0 q1 p0 p1 x0 x1
   rw[HQ.out]
   exact bodyPost_ret (v:=.tuple #[.agg #[.slice none 0 0,.slice none 0 0],.int .u8 0,.int .i64 5]) (by simp[results,Tryz.results103,go_sem,f0,f1]) rfl ⟨⟨_,_,_,_,_,_,rfl,StIs.none_ elD wf⟩,HF.out⟩
  ·have hm1:m=q.length+1:=by rw[<- HNC.out,hcs];simp
   have HCS:=hid hcs
   obtain⟨k,hk⟩:∃k,q.length=k:=⟨_,rfl⟩
   have HK:=hid hk
   have hmk:m=k+1:=by omega
   subst hmk
   have t3:IntKind.i64.wrap (((k+1:Nat):Int) - 1)=(k:Int):=by rw[IntWalk.i64_in _ (by omega)];omega
   have t4:decide ((k:Int)<0)=false:=decide_eq_false (by omega)
   clear hcs hm1 hk q0 q1 p0 p1 hrl
   go_wp2_with fail
   clear x0 x1 hbl
   refine(copied_eo HV3.out HL1.out HL2.out).mono ?_
   rintro e w5 ⟨⟨P5,n5,c5,Q5,m5,d5,l,rfl,he1,he2,hml,hok,hck⟩,hb⟩
   obtain⟨hcap,hn5⟩:n5<=c5/\s.vals.length=n5:=by
    obtain⟨A,c',e,hc',_⟩:=(he1.row (T:=elB) hok).form
    injection e with _ e1 e2
    subst e1 e2
    exact⟨hc',rfl⟩
   obtain rfl:n5=np:=hn5.symm.trans HNV.out
   have HBn:=hid (hb.trans ((zaB w5 (.cells #[.slice P5 n5 c5,.slice Q5 m5 d5] 30)).mono hb.size))
   have HB6:=hid (HB3.out.trans (HBn.out.mono HB3.out.size))
   have HE1:=hid (he1.keep (zaB w5 (.cells #[.slice P5 n5 c5,.slice Q5 m5 d5] 30)))
   have HE2:=hid (he2.keep (zaB w5 (.cells #[.slice P5 n5 c5,.slice Q5 m5 d5] 30)))
   have HO6:=hid (zaC w5 (.cells #[.slice P5 n5 c5,.slice Q5 m5 d5] 30))
   have HR6:=hid (blk HR3.out HBn.out)
   have HBX6:=hid (blk HBX3.out HBn.out)
   have HRC6:=hid (HRC3.out.keep HBn.out)
   have HRB6:=hid (HRB3.out.keep HBn.out)
   have HML:=hid hml
   have HOK:=hid hok
   have HCK:=hid hck
   have HO5:Hid (w3.heap.size<=w5.heap.size):=hb.size
   have HR4l:Hid (r<w3.heap.size):=lt_of_heap HR3.out
   have HBl:Hid (b<w3.heap.size):=lt_of_heap HBX3.out
   obtain⟨pp,hpp,hpc⟩:∃pp,l0[k]? = some pp/\pp.1=ctl:=by
    have e:(l0.map (·.1))[k]? = some ctl:=by rw[HML0.out,HCS.out,<- HK.out];simp
    rw[List.getElem?_map] at e
    cases hq:l0[k]? with
    | none=>rw[hq] at e;cases e
    | some pp=>rw[hq] at e;exact⟨pp,rfl,Option.some.inj e⟩
   obtain⟨g,off,hQe,hg,k0,k1,k2,k3,hO⟩:=ctl_at HRC6.out hpp
   rw[hpc] at k2 k3
   subst hQe
   obtain⟨ht,hht⟩:∃ht,ctl.ht=ht:=⟨_,rfl⟩
   rw[hht] at k2
   have HHT:=hid hht
   obtain⟨qq,hqq⟩:∃qq,off+k*4=qq:=⟨_,rfl⟩
   rw[hqq] at k0 k1 k2 k3
   have i1:(0:Int)<=(k:Int):=by omega
   have i2:(k:Int)<((k+1:Nat):Int):=by omega
   obtain⟨x0,x1⟩:=zaH HBX6.out
   obtain⟨o0,o1⟩:=zaH HO6.out
   clear hb he1 he2 hml hok hck hpp hpc hO hn5 hht
   by_cases hlt:ht<(n5:Int)
   ·have hht0:(0:Int)<=ht:=by have:=dead_len HS.out HCS.out;rw[<- HHT.out];omega
    obtain⟨kk,hkk⟩:∃kk,n5=kk+1:=⟨n5 - 1,by omega⟩
    obtain⟨gb,ofb,hPe,hgb,hb8,_⟩:=byte_at HRB6.out (j:=kk) (by rw[HNV.out];omega)
    subst hPe
    obtain⟨v,hv⟩:∃v,s.vals.getD kk 0=v:=⟨_,rfl⟩
    rw[hv] at hb8
    have HQ:Hid (R=(⟨s.vals.take kk,s.cs⟩,v,0)):=by
     show _=_
     rw[<- HRR.out,pop_taken HS.out HCS.out (by rw[HHT.out,HNV.out];exact hlt)]
     have e1:s.vals.getLastD 0=v:=by
      rw[List.getLastD_eq_getLast?,List.getLast?_eq_getElem?,HNV.out,hkk,Nat.add_sub_cancel,<- hv,List.getD_eq_getElem?_getD]
     have e2:s.vals.dropLast=s.vals.take kk:=by rw[List.dropLast_eq_take,HNV.out,hkk,Nat.add_sub_cancel]
     rw[e1,e2]
    have t5:IntKind.i64.wrap ((n5:Int) - 1)=(kk:Int):=by rw[IntWalk.i64_in _ (by omega)];omega
    have t6:decide (ht<(n5:Int))=true:=decide_eq_true hlt
    have j1:(0:Int)<=(kk:Int):=by omega
    have j2:(kk:Int)<(n5:Int):=by omega
    have j3:(kk:Int)<=(c5:Int):=by omega
    have j3':kk<=c5:=by omega
    have HT:=hid (HE1.out.take kk (by omega))
    have HB8:=hid hb8
    have HGB:=hid hgb
    clear hlt hkk hv hht0 hb8 hgb
    go_wp2_with fail
    go_quiet (fail)
    have HD:=hid (drewB (w5.alloc (.cells #[.slice P5 n5 c5,.slice Q5 m5 d5] 30)) nq (Nat.le_refl (w5.alloc (.cells #[.slice P5 n5 c5,.slice Q5 m5 d5] 30)).heap.size))
    have HO7:=hid (blk HO6.out HD.out)
    have HR7:=hid (blk HR6.out HD.out)
    have HBX7:=hid (blk HBX6.out HD.out)
    have HE27:=hid (HE2.out.keep HD.out)
    have HC7:Hid (∀p∈l,CtOk ((w5.alloc (.cells #[.slice P5 n5 c5,.slice Q5 m5 d5] 30)).drewN nq) p):=fun p hp=>(HCK.out p hp).keep (HBn.out.trans (HD.out.mono HBn.out.size))
    have HB7:=hid (HB6.out.trans (HD.out.mono HB6.out.size))
    have b8:=(HD.out.cell (p:=⟨gb,ofb+kk,none⟩) HGB.out).trans HB8.out
    have HT7:=hid (HT.out.keep HD.out)
    clear x0 x1 o0 o1 k0 k1 k2 k3
    generalize (w5.alloc (.cells #[.slice P5 n5 c5,.slice Q5 m5 d5] 30)).drewN nq=w7 at *
    obtain⟨o,ho⟩:∃o,w5.heap.size=o:=⟨_,rfl⟩
    rw[ho] at HO7 HO5
    simp only[ho]
    clear ho HO6 HR6 HBX6 HRC6 HRB6 HE1 HE2 HB6 HBn HD
    obtain⟨o0,o1⟩:=zaH HO7.out
    have op0:=(zaA HO7.out 0).2
    have hol:o<w7.heap.size:=lt_of_heap HO7.out
    go_wp2_with fail
    have HO8:Hid ((w7.setCell ⟨o,0,none⟩ (.slice P5 kk c5)).heap[o]? = some (.cells #[.slice P5 kk c5,.slice Q5 m5 d5] 30 (0,0))):=by
     show _=_
     rw[zaE HO7.out]
     rfl
    have hro:r≠o:=by have:=HR4l.out;have:=HO5.out;omega
    have hor:o≠r:=Ne.symm hro
    have hbo:b≠o:=by have:=HBl.out;have:=HO5.out;omega
    have HR8:=hid (chgT_low (u:=.slice P5 kk c5) HR7.out (o:=o) (i:=0) hro)
    have HX8:=hid (chgT_low (u:=.slice P5 kk c5) HBX7.out (o:=o) (i:=0) hbo)
    have hgo:gb≠o:=by
     intro e
     subst e
     exact box_int HO7.out _ b8
    have b9:(w7.setCell ⟨o,0,none⟩ (.slice P5 kk c5)).cell? ⟨gb,ofb+kk,none⟩=some (.int .u8 v):=by
     rw[World.cell?_setCell_other _ _ _ _ (by intro e;exact hgo (congrArg Addr.block e).symm)]
     exact b8
    have HE8:=hid (HT7.out.other (chgT_set (i:=0) (u:=.slice P5 kk c5) HO7.out) (by decide))
    have HF8:=hid (HE27.out.other (chgT_set (i:=0) (u:=.slice P5 kk c5) HO7.out) (by decide))
    have HC8:Hid (∀p∈l,CtOk (w7.setCell ⟨o,0,none⟩ (.slice P5 kk c5)) p):=fun p hp=>ctok_box (HC7.out p hp) HO7.out
    have HB8':=hid (HB7.out.setCell (p:=⟨o,0,none⟩) (Nat.le_trans HB3.out.size HO5.out) (.slice P5 kk c5))
    clear o0 o1 op0 hol b8 hgo
    generalize w7.setCell ⟨o,0,none⟩ (.slice P5 kk c5)=w8 at *
    obtain⟨o0,o1⟩:=zaH HO8.out
    obtain⟨x0,x1⟩:=zaH HX8.out
    obtain⟨q0,q1⟩:=zaH HR8.out
    have p0:=(zaA HR8.out 0).2
    have p1:=(zaA HR8.out 1).2
    have hrl:r<w8.heap.size:=lt_of_heap HR8.out
    have hgr:gb≠r:=by
     intro e
     subst e
     exact box_int HR8.out _ b9
    have hrg:r≠gb:=Ne.symm hgr
    have hbr:b≠r:=HBN.out
    have hrb:r≠b:=Ne.symm hbr
    go_region
    obtain⟨f0,f1⟩:=zaH (store2 HR8.out (.slice P5 kk c5) (.slice Q5 m5 d5))
    have HF:=hid (((HB8'.out.setCell (p:=⟨r,0,none⟩) HBR.out (.slice P5 kk c5)).setCell (p:=⟨r,1,none⟩) HBR.out (.slice Q5 m5 d5)).drew)
    have HG1:=hid (((HE8.out.other (chgT_set (i:=0) (u:=.slice P5 kk c5) HR8.out) (by decide)).other (chgT_set (i:=1) (u:=.slice Q5 m5 d5) (zaE HR8.out _)) (by decide)).keep (zaI _))
    have HG2:=hid (((HF8.out.other (chgT_set (i:=0) (u:=.slice P5 kk c5) HR8.out) (by decide)).other (chgT_set (i:=1) (u:=.slice Q5 m5 d5) (zaE HR8.out _)) (by decide)).keep (zaI _))
    have HGC:Hid (∀p∈l,CtOk ((w8.setCell ⟨r,0,none⟩ (.slice P5 kk c5)).setCell ⟨r,1,none⟩ (.slice Q5 m5 d5)).drew p):=fun p hp=>(ctok_box (ctok_box (HC8.out p hp) HR8.out) (zaE HR8.out _)).keep (zaI _)
    generalize (w8.setCell ⟨r,0,none⟩ (.slice P5 kk c5)).setCell ⟨r,1,none⟩ (.slice Q5 m5 d5)=wf at *
    clear q0 q1 p0 p1 o0 o1 x0 x1 b9
    have f0:wf.drew.cell? ⟨r,0,none⟩=some (.slice P5 kk c5):=f0
    have f1:wf.drew.cell? ⟨r,1,none⟩=some (.slice Q5 m5 d5):=f1
    generalize wf.drew=wf at *
    go_wp2_with fail
    rw[HQ.out]
    exact bodyPost_ret (v:=.tuple #[.agg #[.slice P5 kk c5,.slice Q5 m5 d5],.int .u8 v,.int .i64 0]) (by simp[results,Tryz.results103,go_sem,f0,f1]) rfl ⟨⟨_,_,_,_,_,_,rfl,_,_,l,rfl,HG1.out.row (fun p hp=>HOK.out p (List.mem_of_mem_take hp)),HG2.out.row HGC.out,HML.out⟩,HF.out⟩
   ·have t6:decide (ht<(n5:Int))=false:=decide_eq_false hlt
    have HLT:=hid hlt
    cases hdd:ctl.dead with
    | true=>
     have HQ:Hid (R=(s,0,0)):=by
      show _=_
      rw[<- HRR.out,pop_dead HS.out HCS.out (by rw[HHT.out,HNV.out];exact HLT.out) hdd]
     rw[hdd] at k3
     have HG:=hid hg
     have HK3:=hid k3
     clear hdd hlt hg
     go_wp2_with fail
     go_quiet (fail)
     have HD:=hid (drewB (w5.alloc (.cells #[.slice P5 n5 c5,.slice Q5 m5 d5] 30)) nq (Nat.le_refl (w5.alloc (.cells #[.slice P5 n5 c5,.slice Q5 m5 d5] 30)).heap.size))
     have HO7:=hid (blk HO6.out HD.out)
     have HR7:=hid (blk HR6.out HD.out)
     have HBX7:=hid (blk HBX6.out HD.out)
     have HE27:=hid (HE2.out.keep HD.out)
     have HC7:Hid (∀p∈l,CtOk ((w5.alloc (.cells #[.slice P5 n5 c5,.slice Q5 m5 d5] 30)).drewN nq) p):=fun p hp=>(HCK.out p hp).keep (HBn.out.trans (HD.out.mono HBn.out.size))
     have HB7:=hid (HB6.out.trans (HD.out.mono HB6.out.size))
     have k8:=(HD.out.cell (p:=⟨g,qq+3,none⟩) HG.out).trans HK3.out
     have HT7:=hid (HE1.out.keep HD.out)
     clear x0 x1 o0 o1 k0 k1 k2 k3
     generalize (w5.alloc (.cells #[.slice P5 n5 c5,.slice Q5 m5 d5] 30)).drewN nq=w7 at *
     obtain⟨o,ho⟩:∃o,w5.heap.size=o:=⟨_,rfl⟩
     rw[ho] at HO7 HO5
     simp only[ho]
     clear ho HO6 HR6 HBX6 HRC6 HRB6 HE1 HE2 HB6 HBn HD
     obtain⟨o0,o1⟩:=zaH HO7.out
     obtain⟨x0,x1⟩:=zaH HBX7.out
     obtain⟨q0,q1⟩:=zaH HR7.out
     have p0:=(zaA HR7.out 0).2
     have p1:=(zaA HR7.out 1).2
     have hrl:r<w7.heap.size:=lt_of_heap HR7.out
     have hro:r≠o:=by have:=HR4l.out;have:=HO5.out;omega
     have hor:o≠r:=Ne.symm hro
     go_wp2_with fail
     obtain⟨f0,f1⟩:=zaH (store2 HR7.out (.slice P5 n5 c5) (.slice Q5 m5 d5))
     have HF:=hid ((HB7.out.setCell (p:=⟨r,0,none⟩) HBR.out (.slice P5 n5 c5)).setCell (p:=⟨r,1,none⟩) HBR.out (.slice Q5 m5 d5))
     have HG1:=hid ((HT7.out.other (chgT_set (i:=0) (u:=.slice P5 n5 c5) HR7.out) (by decide)).other (chgT_set (i:=1) (u:=.slice Q5 m5 d5) (zaE HR7.out _)) (by decide))
     have HG2:=hid ((HE27.out.other (chgT_set (i:=0) (u:=.slice P5 n5 c5) HR7.out) (by decide)).other (chgT_set (i:=1) (u:=.slice Q5 m5 d5) (zaE HR7.out _)) (by decide))
     have HGC:Hid (∀p∈l,CtOk ((w7.setCell ⟨r,0,none⟩ (.slice P5 n5 c5)).setCell ⟨r,1,none⟩ (.slice Q5 m5 d5)) p):=fun p hp=>ctok_box (ctok_box (HC7.out p hp) HR7.out) (zaE HR7.out _)
     generalize (w7.setCell ⟨r,0,none⟩ (.slice P5 n5 c5)).setCell ⟨r,1,none⟩ (.slice Q5 m5 d5)=wf at *
     clear q0 q1 p0 p1 x0 x1
     rw[HQ.out]
     exact bodyPost_ret (v:=.tuple #[.agg #[.slice P5 n5 c5,.slice Q5 m5 d5],.int .u8 0,.int .i64 0]) (by simp[results,Tryz.results103,go_sem,f0,f1]) rfl ⟨⟨_,_,_,_,_,_,rfl,_,_,l,rfl,HG1.out.row HOK.out,HG2.out.row HGC.out,HML.out⟩,HF.out⟩
    | false=>
     have HQ:Hid (R=(none_,0,5)):=by
      show _=_
      rw[<- HRR.out,pop_fail HS.out HCS.out (by rw[HHT.out,HNV.out];exact HLT.out) hdd]
     rw[hdd] at k3
     have HG:=hid hg
     have HK3:=hid k3
     clear hdd hlt hg
     go_wp2_with fail
     go_quiet (fail)
     have HD:=hid (drewB (w5.alloc (.cells #[.slice P5 n5 c5,.slice Q5 m5 d5] 30)) nq (Nat.le_refl (w5.alloc (.cells #[.slice P5 n5 c5,.slice Q5 m5 d5] 30)).heap.size))
     have HO7:=hid (blk HO6.out HD.out)
     have HR7:=hid (blk HR6.out HD.out)
     have HBX7:=hid (blk HBX6.out HD.out)
     have HE27:=hid (HE2.out.keep HD.out)
     have HC7:Hid (∀p∈l,CtOk ((w5.alloc (.cells #[.slice P5 n5 c5,.slice Q5 m5 d5] 30)).drewN nq) p):=fun p hp=>(HCK.out p hp).keep (HBn.out.trans (HD.out.mono HBn.out.size))
     have HB7:=hid (HB6.out.trans (HD.out.mono HB6.out.size))
     have k8:=(HD.out.cell (p:=⟨g,qq+3,none⟩) HG.out).trans HK3.out
     have HT7:=hid (HE1.out.keep HD.out)
     clear x0 x1 o0 o1 k0 k1 k2 k3
     generalize (w5.alloc (.cells #[.slice P5 n5 c5,.slice Q5 m5 d5] 30)).drewN nq=w7 at *
     obtain⟨o,ho⟩:∃o,w5.heap.size=o:=⟨_,rfl⟩
     rw[ho] at HO7 HO5
     simp only[ho]
     clear ho HO6 HR6 HBX6 HRC6 HRB6 HE1 HE2 HB6 HBn HD
     obtain⟨x0,x1⟩:=zaH HBX7.out
     obtain⟨q0,q1⟩:=zaH HR7.out
     have p0:=(zaA HR7.out 0).2
     have p1:=(zaA HR7.out 1).2
     have hrl:r<w7.heap.size:=lt_of_heap HR7.out
     go_wp2_with fail
     obtain⟨f0,f1⟩:=zaH (store2 HR7.out (.slice none 0 0) (.slice none 0 0))
     have HF:=hid ((HB7.out.setCell (p:=⟨r,0,none⟩) HBR.out (.slice none 0 0)).setCell (p:=⟨r,1,none⟩) HBR.out (.slice none 0 0))
     generalize (w7.setCell ⟨r,0,none⟩ (.slice none 0 0)).setCell ⟨r,1,none⟩ (.slice none 0 0)=wf at *
     clear q0 q1 p0 p1
     rw[HQ.out]
     exact bodyPost_ret (v:=.tuple #[.agg #[.slice none 0 0,.slice none 0 0],.int .u8 0,.int .i64 5]) (by simp[results,Tryz.results103,go_sem,f0,f1]) rfl ⟨⟨_,_,_,_,_,_,rfl,StIs.none_ elD wf⟩,HF.out⟩
theorem pop_sane {s:Stk}(h:sane s=true):popS s=match popV s.cs.getLast? s.vals with
 | none=>(none_,0,5)
 | some (vs,v)=>(⟨vs,s.cs⟩,v,0):=by
 unfold popS
 rw[if_neg (by rw[h];decide)]
 rfl
theorem want_notsane {s:Stk}{xs:List Int}(h:sane s=false):wantS s xs=(none_,1):=by unfold wantS;rw[if_pos h]
theorem want_sane {s:Stk}{xs:List Int}(h:sane s=true):wantS s xs=match wantV s.cs.getLast? s.vals xs.reverse with
 | none=>(none_,5)
 | some vs=>(⟨vs,s.cs⟩,0):=by
 unfold wantS
 rw[if_neg (by rw[h];decide)]
 rfl
theorem pop_sane_none {vs:List Int}{cs:List Ctl}(h:sane ⟨vs,cs⟩=true)(hp:popV cs.getLast? vs=none):popS ⟨vs,cs⟩=(none_,0,5):=by rw[pop_sane h];simp only[hp]
theorem pop_sane_some {vs vs1:List Int}{u:Int}{cs:List Ctl}(h:sane ⟨vs,cs⟩=true)(hp:popV cs.getLast? vs=some (vs1,u)):popS ⟨vs,cs⟩=(⟨vs1,cs⟩,u,0):=by rw[pop_sane h];simp only[hp]
theorem StIs.set2 {W:World}{y:Nat}{a b v:Value}{s:Stk}{A A' B B':Option Addr}{n c n' c' m d m' d':Nat}{t:TypeId}(h:StIs elD W v s)(hy:W.heap[y]? = some (.cells #[.slice A n c,.slice A' n' c'] t (0,0)))(ha:a= .slice B m d)(hb:b= .slice B' m' d'):StIs elD ((W.setCell ⟨y,0,none⟩ a).setCell ⟨y,1,none⟩ b) v s:=by
 subst ha hb
 refine(h.set_box hy).set_box (y:=y) (A:=B) (n:=m) (c:=d) (A':=A') (n':=n') (c':=c') (t:=t) ?_
 rw[zaE hy]
 rfl
theorem chg_two {W:World}{y k:Nat}{a b a' b':Value}{o:Obj}{t:TypeId}(hk:W.heap[k]? = some o)(hy:W.heap[y]? = some (.cells #[a',b'] t (0,0)))(hne:k≠y):((W.setCell ⟨y,0,none⟩ a).setCell ⟨y,1,none⟩ b).heap[k]? = some o:=by
 rw[chg_set _ y 1 _ k (by rw[zaJ];exact lt_of_heap hk) (fun e=>hne (Option.some.inj e)),chg_set _ y 0 _ k (lt_of_heap hk) (fun e=>hne (Option.some.inj e))]
 exact hk
theorem fit_out {u y:Int}{b1 b2 b3:Bool}(h1:(u != 0)=b1)(h2:(y != 0)=b2)(h3:(u != y)=b3):fit u y = !(b1 && b2 && b3):=by
 subst h1 h2 h3
 unfold fit
 cases a:(u == 0) <;> cases b:(y == 0) <;> cases c:(u == y) <;> simp only[bne,a,b,c] <;> rfl
def ROpE (r:Stk×Int)(w:World)(e:Ending)(w':World):Prop:=(∃P n c Q m d l,e= .returned (.tuple #[.agg #[.slice P n c,.slice Q m d],.int .i64 r.2])/\EO elB w' w.heap.size (.slice P n c) r.1.vals/\EO elD w' w.heap.size (.slice Q m d) l/\l.map (·.1)=r.1.cs/\(∀p∈r.1.vals,0<=p/\p<256)/\(∀p∈l,CtOk w' p))/\Below w.heap.size w w'
theorem ROpE.op {r:Stk×Int}{w w':World}{e:Ending}(h:ROpE r w e w'):ROp r w e w':=by
 obtain⟨⟨P,n,c,Q,m,d,l,h1,h2,h3,h4,h5,h6⟩,hb⟩:=h
 exact⟨⟨P,n,c,Q,m,d,h1,_,_,l,rfl,h2.row h5,h3.row h6,h4⟩,hb⟩
theorem ROpE.none {w w':World}{i:Int}(hb:Below w.heap.size w w'):ROpE (none_,i) w (.returned (.tuple #[.agg #[.slice none 0 0,.slice none 0 0],.int .i64 i])) w':=
 ⟨⟨_,_,_,_,_,_,[],rfl,.inr (own_nil _ _ _),.inr (own_nil _ _ _),rfl,(fun p hp=>by cases hp),(fun p hp=>by cases hp)⟩,hb⟩
theorem rwant_eo {v x : Value} {s : Stk} {xs : List Int} {w : World} (h : StIs elD w v s) (hx : Row elB w x xs) (h1 : s.vals.length ≤ 400000) (h2 : s.cs.length ≤ 400000) (h3 : xs.length ≤ 400000) :
    Calls Tryz.prog 75 #[v, x] w (ROpE (wantS s xs) w) := by
  obtain ⟨Px, cx, rfl, hxc, _⟩ := hx.form
  obtain ⟨nx, hnx⟩ : ∃ n, xs.length = n := ⟨_, rfl⟩
  rw [hnx] at hx hxc h3 ⊢
  have HNX := hid hnx
  have HX := hid hx
  clear hnx hx
  obtain ⟨P, np, cp, Q, m, d, rfl⟩ := StIs.form (T := elD) h
  obtain ⟨l0, hrb0, hrc0, hml0, hnv, hnl0, hnc⟩ := h.rows
  have HB2 := hid (below2 w (.cells #[.slice P np cp, .slice Q m d] 30) (.cells #[.slice none 0 0, .slice none 0 0] 30))
  have HBX := hid (blk (zaC w (.cells #[.slice P np cp, .slice Q m d] 30)) (zaB (w.alloc (.cells #[.slice P np cp, .slice Q m d] 30)) (.cells #[.slice none 0 0, .slice none 0 0] 30)))
  have HR := hid (zaC (w.alloc (.cells #[.slice P np cp, .slice Q m d] 30)) (.cells #[.slice none 0 0, .slice none 0 0] 30))
  have HV := hid (h.keep HB2.out)
  simp only [zaD] at HR
  have HL1 := hid h1
  have HL2 := hid h2
  have HNC := hid hnc
  have HNV := hid hnv
  have HRC0 := hid (hrc0.keep HB2.out)
  have HRB0 := hid (hrb0.keep HB2.out)
  have HML0 := hid hml0
  obtain ⟨R, hR⟩ : ∃ R, wantS s xs = R := ⟨_, rfl⟩
  have HRR := hid hR
  rw [hR]
  have hbig : m ≤ 400000 := by omega
  have hbigv : np ≤ 400000 := by omega
  clear h h1 h2 hR hrb0 hrc0 hml0 hnv hnl0 hnc
  go_enter Tryz.func75, Tryz.ntmps75
  go_wp2_with fail
  generalize ((w.alloc (.cells #[.slice P np cp, .slice Q m d] 30)).alloc (.cells #[.slice none 0 0, .slice none 0 0] 30)) = w2 at *
  obtain ⟨b, hb0⟩ : ∃ b, w.heap.size = b := ⟨_, rfl⟩
  obtain ⟨r, hr0⟩ : ∃ r, b + 1 = r := ⟨_, rfl⟩
  have HBR : Hid (w.heap.size ≤ r) := hid (by omega)
  have HBN : Hid (b ≠ r) := hid (by omega)
  have HBB : Hid (w.heap.size ≤ b) := hid (by omega)
  rw [hb0] at HBX HR
  rw [hr0] at HR
  simp only [hb0]
  simp only [hr0]
  clear hb0 hr0
  refine (rsane_any HV.out).mono ?_
  rintro e w3 ⟨rfl, hb⟩
  have HB3 := hid (HB2.out.trans (hb.mono HB2.out.size))
  have HV3 := hid (HV.out.keep hb)
  have HRC3 := hid (HRC0.out.keep hb)
  have HRB3 := hid (HRB0.out.keep hb)
  have HBX3 := hid (blk HBX.out hb)
  have HR3 := hid (blk HR.out hb)
  clear hb HV HBX HR HB2 HRC0 HRB0
  obtain ⟨q0, q1⟩ := zaH HR3.out
  have p0 := (zaA HR3.out 0).2
  have p1 := (zaA HR3.out 1).2
  have hrl : r < w3.heap.size := lt_of_heap HR3.out
  have HX3 := hid (HX.out.keep HB3.out)
  cases hs : sane s with
  | false =>
    have HQ : Hid (R = (none_, 1)) := HRR.out.symm.trans (want_notsane hs)
    go_wp2_with fail
    obtain ⟨f0, f1⟩ := zaH (store2 HR3.out (.slice none 0 0) (.slice none 0 0))
    have HF := hid ((HB3.out.setCell (p := ⟨r, 0, none⟩) HBR.out (.slice none 0 0)).setCell (p := ⟨r, 1, none⟩) HBR.out (.slice none 0 0))
    generalize (w3.setCell ⟨r, 0, none⟩ (.slice none 0 0)).setCell ⟨r, 1, none⟩ (.slice none 0 0) = wf at *
    clear q0 q1 p0 p1
    rw [HQ.out]
    exact bodyPost_ret (v := .tuple #[.agg #[.slice none 0 0, .slice none 0 0], .int .i64 1]) (by simp [results, Tryz.results75, go_sem, f0, f1]) rfl (ROpE.none HF.out)
  | true =>
    have HS := hid hs
    have HQ := hid (HRR.out.symm.trans (want_sane hs))
    have e0 : IntKind.i64.wrap ((nx : Int) - 1) = (nx : Int) - 1 := IntWalk.i64_in _ (by omega)
    clear hs q0 q1 p0 p1 hrl HRR
    go_wp2_with fail
    go_loopw [6] (fun k' wr => ∃ (j : Nat) (i : Int) (vs : List Int) (P' : Option Addr) (n' c' : Nat) (Q' : Option Addr) (m' d' : Nat), k' = .int .i64 i ∧ i + 1 = (j : Int) ∧ j ≤ nx ∧ Below w.heap.size w wr ∧ wr.heap[b]? = some (.cells #[.slice P' n' c', .slice Q' m' d'] 30 (0, 0)) ∧ wr.heap[r]? = some (.cells #[.slice none 0 0, .slice none 0 0] 30 (0, 0)) ∧ StIs elD wr (.agg #[.slice P' n' c', .slice Q' m' d']) ⟨vs, s.cs⟩ ∧ sane ⟨vs, s.cs⟩ = true ∧ vs.length ≤ 400000 ∧ wantV s.cs.getLast? s.vals xs.reverse = wantV s.cs.getLast? vs (xs.take j).reverse) (fun k' _ => (intOf k' + 1).toNat)
    case atStart => exact ⟨nx, (nx : Int) - 1, s.vals, _, _, _, _, _, _, rfl, by omega, Nat.le_refl _, HB3.out, HBX3.out, HR3.out, HV3.out, HS.out, HL1.out, by rw [List.take_of_length_le (by rw [HNX.out]; exact Nat.le_refl _)]⟩
    case round =>
      obtain ⟨j, i, vs, P', n', c', Q', m', d', rfl, hj, hjn, hbw, hbx, hbr, hst, hsn, hvl, hwv⟩ := hrel
      have HBw := hid hbw
      have HBx := hid hbx
      have HBr := hid hbr
      have HSt := hid hst
      have HSn := hid hsn
      have HVl := hid hvl
      have HWv := hid hwv
      obtain ⟨x0, x1⟩ := zaH hbx
      have hbl : b < wr.heap.size := lt_of_heap hbx
      clear hbw hbx hbr hst hsn hvl hwv
      rcases j with _ | k
      · have t1 : decide (0 ≤ i) = false := decide_eq_false (by omega)
        have HQ2 : Hid (R = (⟨vs, s.cs⟩, 0)) := by
          show _ = _
          rw [HQ.out, HWv.out]
          rfl
        clear hj hjn
        go_wp2_with fail
        refine (copied_eo HSt.out HVl.out HL2.out).mono ?_
        rintro e w5 ⟨⟨P5, n5, c5, Q5, m5, d5, l, rfl, he1, he2, hml, hok, hck⟩, hb5⟩
        have hwz := HBw.out.size
        have HR5 := hid (blk HBr.out hb5)
        have HB5 := hid (HBw.out.trans (hb5.mono HBw.out.size))
        have HE1 := hid (he1.low hwz)
        have HE2 := hid (he2.low hwz)
        have HML := hid hml
        have HOK := hid hok
        have HCK : Hid (∀ p ∈ l, CtOk w5 p) := fun p hp => (hck p hp).keep hb5
        clear hb5 he1 he2 hml hok hck x0 x1 hbl hwz
        obtain ⟨q0, q1⟩ := zaH HR5.out
        have p0 := (zaA HR5.out 0).2
        have p1 := (zaA HR5.out 1).2
        have hrl : r < w5.heap.size := lt_of_heap HR5.out
        go_wp2_with fail
        obtain ⟨f0, f1⟩ := zaH (store2 HR5.out (.slice P5 n5 c5) (.slice Q5 m5 d5))
        have HF := hid ((HB5.out.setCell (p := ⟨r, 0, none⟩) HBR.out (.slice P5 n5 c5)).setCell (p := ⟨r, 1, none⟩) HBR.out (.slice Q5 m5 d5))
        have HG1 := hid ((HE1.out.other (chgT_set (i := 0) (u := .slice P5 n5 c5) HR5.out) (by decide)).other (chgT_set (i := 1) (u := .slice Q5 m5 d5) (zaE HR5.out _)) (by decide))
        have HG2 := hid ((HE2.out.other (chgT_set (i := 0) (u := .slice P5 n5 c5) HR5.out) (by decide)).other (chgT_set (i := 1) (u := .slice Q5 m5 d5) (zaE HR5.out _)) (by decide))
        have HGC : Hid (∀ p ∈ l, CtOk ((w5.setCell ⟨r, 0, none⟩ (.slice P5 n5 c5)).setCell ⟨r, 1, none⟩ (.slice Q5 m5 d5)) p) := fun p hp => ctok_box (ctok_box (HCK.out p hp) HR5.out) (zaE HR5.out _)
        generalize (w5.setCell ⟨r, 0, none⟩ (.slice P5 n5 c5)).setCell ⟨r, 1, none⟩ (.slice Q5 m5 d5) = wf at *
        clear q0 q1 p0 p1
        rw [HQ2.out]
        exact bodyPost_ret (v := .tuple #[.agg #[.slice P5 n5 c5, .slice Q5 m5 d5], .int .i64 0]) (by simp [results, Tryz.results75, go_sem, f0, f1]) rfl ⟨⟨_, _, _, _, _, _, l, rfl, HG1.out, HG2.out, HML.out, HOK.out, HGC.out⟩, HF.out⟩
      · obtain rfl : i = (k : Int) := by omega
        have t1 : decide (0 ≤ (k : Int)) = true := decide_eq_true (by omega)
        obtain ⟨y, hy⟩ : ∃ y, xs.getD k 0 = y := ⟨_, rfl⟩
        have hq := HWv.out
        rw [take_succ_rev xs k (by rw [HNX.out]; omega), hy] at hq
        have HY := hid hy
        have HC := hid (rpop_any HSt.out HVl.out HL2.out)
        clear hj hy
        cases hpo : popV s.cs.getLast? vs with
        | none =>
          rw [wantV_none hpo] at hq
          have HQ2 : Hid (R = (none_, 5)) := by
            show _ = _
            rw [HQ.out, hq]
          rw [pop_sane_none HSn.out hpo] at HC
          clear hq hpo
          go_wp2_with fail
          refine HC.out.mono ?_
          rintro e w4 ⟨⟨P4, n4, c4, Q4, m4, d4, rfl, hst4⟩, hb4⟩
          have HB4 := hid (HBw.out.trans ((hb4.trans ((zaB w4 (.cells #[.slice P4 n4 c4, .slice Q4 m4 d4] 30)).mono hb4.size)).mono HBw.out.size))
          have HR4 := hid (blk HBr.out (hb4.trans ((zaB w4 (.cells #[.slice P4 n4 c4, .slice Q4 m4 d4] 30)).mono hb4.size)))
          clear hb4 hst4 x0 x1 hbl
          obtain ⟨q0, q1⟩ := zaH HR4.out
          have p0 := (zaA HR4.out 0).2
          have p1 := (zaA HR4.out 1).2
          have hrl : r < (w4.alloc (.cells #[.slice P4 n4 c4, .slice Q4 m4 d4] 30)).heap.size := lt_of_heap HR4.out
          go_wp2_with fail
          generalize w4.alloc (.cells #[.slice P4 n4 c4, .slice Q4 m4 d4] 30) = w5 at *
          obtain ⟨f0, f1⟩ := zaH (store2 HR4.out (.slice none 0 0) (.slice none 0 0))
          have HF := hid ((HB4.out.setCell (p := ⟨r, 0, none⟩) HBR.out (.slice none 0 0)).setCell (p := ⟨r, 1, none⟩) HBR.out (.slice none 0 0))
          generalize (w5.setCell ⟨r, 0, none⟩ (.slice none 0 0)).setCell ⟨r, 1, none⟩ (.slice none 0 0) = wf at *
          clear q0 q1 p0 p1
          rw [HQ2.out]
          exact bodyPost_ret (v := .tuple #[.agg #[.slice none 0 0, .slice none 0 0], .int .i64 5]) (by simp [results, Tryz.results75, go_sem, f0, f1]) rfl (ROpE.none HF.out)
        | some pr =>
          obtain ⟨vs1, u⟩ := pr
          rw [wantV_some hpo] at hq
          have HQ1 := hid hq
          have HVL := hid (Nat.le_trans (popV_len hpo) HVl.out)
          have HSN1 := hid (popV_sane HSn.out hpo)
          rw [pop_sane_some HSn.out hpo] at HC
          clear hq hpo
          go_wp2_with fail
          refine HC.out.mono ?_
          rintro e w4 ⟨⟨P4, n4, c4, Q4, m4, d4, rfl, hst4⟩, hb4⟩
          have HBt := hid (hb4.trans ((zaB w4 (.cells #[.slice P4 n4 c4, .slice Q4 m4 d4] 30)).mono hb4.size))
          have HB4 := hid (HBw.out.trans (HBt.out.mono HBw.out.size))
          have HR4 := hid (blk HBr.out HBt.out)
          have HX4 := hid (blk HBx.out HBt.out)
          have HO4 := hid (zaC w4 (.cells #[.slice P4 n4 c4, .slice Q4 m4 d4] 30))
          have HS4 := hid (hst4.keep (zaB w4 (.cells #[.slice P4 n4 c4, .slice Q4 m4 d4] 30)))
          have HBO : Hid (b < w4.heap.size) := Nat.lt_of_lt_of_le (lt_of_heap HBx.out) hb4.size
          clear hb4 hst4 x0 x1 hbl
          obtain ⟨gx, ox, rfl, hgx, hcx, hr1, hr2⟩ := byte_at (HX.out.keep HB4.out) (j := k) (by rw [HNX.out]; omega)
          rw [HY.out] at hcx
          have i1 : (0 : Int) ≤ (k : Int) := by omega
          have i2 : (k : Int) < (nx : Int) := by omega
          have e3 : IntKind.i64.wrap ((k : Int) - 1) = (k : Int) - 1 := IntWalk.i64_in _ (by omega)
          clear hr1 hr2 hgx
          obtain ⟨q0, q1⟩ := zaH HR4.out
          have p0 := (zaA HR4.out 0).2
          have p1 := (zaA HR4.out 1).2
          have hrl : r < (w4.alloc (.cells #[.slice P4 n4 c4, .slice Q4 m4 d4] 30)).heap.size := lt_of_heap HR4.out
          obtain ⟨x0, x1⟩ := zaH HX4.out
          have xp0 := (zaA HX4.out 0).2
          have xp1 := (zaA HX4.out 1).2
          have hbl : b < (w4.alloc (.cells #[.slice P4 n4 c4, .slice Q4 m4 d4] 30)).heap.size := lt_of_heap HX4.out
          obtain ⟨o0, o1⟩ := zaH HO4.out
          obtain ⟨b1, hb1⟩ : ∃ b1, (u != 0) = b1 := ⟨_, rfl⟩
          obtain ⟨b2, hb2⟩ : ∃ b2, (y != 0) = b2 := ⟨_, rfl⟩
          obtain ⟨b3, hb3⟩ : ∃ b3, (u != y) = b3 := ⟨_, rfl⟩
          have HFT := hid (fit_out hb1 hb2 hb3)
          have hbo : b ≠ w4.heap.size := by have := HBO.out; omega
          have hbr0 : b ≠ r := HBN.out
          have hrb0 : r ≠ b := Ne.symm hbr0
          cases b1 <;> cases b2 <;> cases b3
          all_goals first
            | (have HFN : Hid (fit u y = false) := HFT.out
               have HQ2 : Hid (R = (none_, 5)) := by
                 show _ = _
                 rw [HQ.out, HQ1.out, HFN.out]
                 rfl
               go_wp2_with fail
               generalize w4.alloc (.cells #[.slice P4 n4 c4, .slice Q4 m4 d4] 30) = w5 at *
               obtain ⟨f0, f1⟩ := zaH (store2 HR4.out (.slice none 0 0) (.slice none 0 0))
               have HF := hid ((HB4.out.setCell (p := ⟨r, 0, none⟩) HBR.out (.slice none 0 0)).setCell (p := ⟨r, 1, none⟩) HBR.out (.slice none 0 0))
               generalize (w5.setCell ⟨r, 0, none⟩ (.slice none 0 0)).setCell ⟨r, 1, none⟩ (.slice none 0 0) = wf at *
               clear q0 q1 p0 p1 x0 x1 o0 o1 xp0 xp1 hcx
               rw [HQ2.out]
               exact bodyPost_ret (v := .tuple #[.agg #[.slice none 0 0, .slice none 0 0], .int .i64 5]) (by simp [results, Tryz.results75, go_sem, f0, f1]) rfl (ROpE.none HF.out))
            | (have HFY : Hid (fit u y = true) := HFT.out
               have HQ2 : Hid (wantV s.cs.getLast? s.vals xs.reverse = wantV s.cs.getLast? vs1 (xs.take k).reverse) := by
                 show _ = _
                 rw [HQ1.out, HFY.out]
                 rfl
               go_wp2_with fail
               have HSF := hid (HS4.out.set2 (a := .slice P4 n4 c4) (b := .slice Q4 m4 d4) HX4.out rfl rfl)
               have HXF := hid (store2 HX4.out (.slice P4 n4 c4) (.slice Q4 m4 d4))
               have HRF := hid (chg_two (a := .slice P4 n4 c4) (b := .slice Q4 m4 d4) HR4.out HX4.out hrb0)
               have HF := hid ((HB4.out.setCell (p := ⟨b, 0, none⟩) HBB.out (.slice P4 n4 c4)).setCell (p := ⟨b, 1, none⟩) HBB.out (.slice Q4 m4 d4))
               generalize ((w4.alloc (.cells #[.slice P4 n4 c4, .slice Q4 m4 d4] 30)).setCell ⟨b, 0, none⟩ (.slice P4 n4 c4)).setCell ⟨b, 1, none⟩ (.slice Q4 m4 d4) = wf at *
               clear q0 q1 p0 p1 x0 x1 o0 o1 xp0 xp1 hcx
               go_roundw
               case rel => exact ⟨k, (k : Int) - 1, vs1, _, _, _, _, _, _, rfl, by omega, by omega, HF.out, HXF.out, HRF.out, HSF.out, HSN1.out, HVL.out, HQ2.out⟩
               case measure => simp [intOf])
theorem rwant_any {v x:Value}{s:Stk}{xs:List Int}{w:World}(h:StIs elD w v s)(hx:Row elB w x xs)(h1:s.vals.length<=400000)(h2:s.cs.length<=400000)(h3:xs.length<=400000):
 Calls Tryz.prog 75 #[v,x] w (ROp (wantS s xs) w):=(rwant_eo h hx h1 h2 h3).mono fun _ _ h=>h.op
end Go.Proofs.YtlappkflnlbfcaaGreatDoor.Stk
end
