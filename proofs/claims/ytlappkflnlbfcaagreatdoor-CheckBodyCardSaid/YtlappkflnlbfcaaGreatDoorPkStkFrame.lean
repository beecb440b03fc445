/- StkRCloseH, StkFrame. -/
import Derived.Test.YtlappkflnlbfcaaGreatDoorPkStkROpen
import Derived.Test.YtlappkflnlbfcaaGreatDoorPkStkPlain
import Derived.Lib.SmallJoins
import Derived.ProofKit
import Derived.OpenShut
import Derived.Deep.Slices
section
namespace Go.Proofs.YtlappkflnlbfcaaGreatDoor.Stk
open Lib (hid)
open Go.RowKit Row9
set_option maxRecDepth 100000
set_option maxHeartbeats 4000000
set_option linter.unusedVariables false
def RCloseE (r:Stk×Ctl×Int)(w:World)(e:Ending)(w':World):Prop:=(∃P n c Q m d l R k f,e= .returned (.tuple #[.agg #[.slice P n c,.slice Q m d],.agg #[.int .i64 r.2.1.op,.slice R k f,.int .i64 r.2.1.ht,.bool r.2.1.dead],.int .i64 r.2.2])/\EO elB w' w.heap.size (.slice P n c) r.1.vals/\EO elD w' w.heap.size (.slice Q m d) l/\l.map (·.1)=r.1.cs/\(∀p∈r.1.vals,0<=p/\p<256)/\(∀p∈l,CtOk w' p)/\Row elB w' (.slice R k f) r.2.1.fin)/\Below w.heap.size w w'
theorem RCloseE.zero {w w':World}{i:Int}(hb:Below w.heap.size w w'):RCloseE (none_,zeroC,i) w (.returned (.tuple #[.agg #[.slice none 0 0,.slice none 0 0],.agg #[.int .i64 0,.slice none 0 0,.int .i64 0,.bool false],.int .i64 i])) w':=
 ⟨⟨_,_,_,_,_,_,[],_,_,_,rfl,.inr (own_nil _ _ _),.inr (own_nil _ _ _),rfl,(fun p hp=>nomatch hp),(fun p hp=>nomatch hp),Row.nil _ _⟩,hb⟩
theorem rclose_eo {v:Value}{s:Stk}{w:World}(h:StIs elD w v s)(h1:s.vals.length<=400000)(h2:s.cs.length<=400000):
  Calls Tryz.prog 53 #[v] w (RCloseE (zaM s) w):=by
 obtain⟨P,np,cp,Q,m,d,rfl⟩:=StIs.form (T:=elD) h
 obtain⟨l0,hrb0,hrc0,hml0,hnv,hnl0,hnc⟩:=h.rows
 have HB2:=hid (below3 w (.cells #[.slice P np cp,.slice Q m d] 30) (.cells #[.slice none 0 0,.slice none 0 0] 30) (.cells #[.int .i64 0,.slice none 0 0,.int .i64 0,.bool false] 76))
 have HBX:=hid (blk (blk (zaC w (.cells #[.slice P np cp,.slice Q m d] 30)) (zaB (w.alloc (.cells #[.slice P np cp,.slice Q m d] 30)) (.cells #[.slice none 0 0,.slice none 0 0] 30))) (zaB ((w.alloc (.cells #[.slice P np cp,.slice Q m d] 30)).alloc (.cells #[.slice none 0 0,.slice none 0 0] 30)) (.cells #[.int .i64 0,.slice none 0 0,.int .i64 0,.bool false] 76)))
 have HR:=hid (blk (zaC (w.alloc (.cells #[.slice P np cp,.slice Q m d] 30)) (.cells #[.slice none 0 0,.slice none 0 0] 30)) (zaB ((w.alloc (.cells #[.slice P np cp,.slice Q m d] 30)).alloc (.cells #[.slice none 0 0,.slice none 0 0] 30)) (.cells #[.int .i64 0,.slice none 0 0,.int .i64 0,.bool false] 76)))
 have HZ:=hid (zaC ((w.alloc (.cells #[.slice P np cp,.slice Q m d] 30)).alloc (.cells #[.slice none 0 0,.slice none 0 0] 30)) (.cells #[.int .i64 0,.slice none 0 0,.int .i64 0,.bool false] 76))
 have HV:=hid (h.keep HB2.out)
 simp only[zaD] at HR HZ
 have HL1:=hid h1
 have HL2:=hid h2
 have HNC:=hid hnc
 have HNV:=hid hnv
 have HRC0:=hid (hrc0.keep HB2.out)
 have HRB0:=hid (hrb0.keep HB2.out)
 have HML0:=hid hml0
 obtain⟨R,hR⟩:∃R,zaM s=R:=⟨_,rfl⟩
 have HRR:=hid hR
 rw[hR]
 have hbig:m<=400000:=by omega
 have hbigv:np<=400000:=by omega
 clear h h1 h2 hR hrb0 hrc0 hml0 hnv hnl0 hnc
 go_enter Tryz.func53,Tryz.ntmps53
 go_wp2_with fail
 generalize (((w.alloc (.cells #[.slice P np cp,.slice Q m d] 30)).alloc (.cells #[.slice none 0 0,.slice none 0 0] 30)).alloc (.cells #[.int .i64 0,.slice none 0 0,.int .i64 0,.bool false] 76))=w2 at *
 obtain⟨b,hb0⟩:∃b,w.heap.size=b:=⟨_,rfl⟩
 obtain⟨r,hr0⟩:∃r,b+1=r:=⟨_,rfl⟩
 obtain⟨z,hz0⟩:∃z,r+1=z:=⟨_,rfl⟩
 have HBR:Hid (w.heap.size<=r):=hid (by omega)
 have HBN:Hid (b≠r):=hid (by omega)
 have HBB:Hid (w.heap.size<=b):=hid (by omega)
 have HBZ:Hid (w.heap.size<=z):=hid (by omega)
 have HRZ:Hid (r<z):=hid (by omega)
 rw[hb0] at HBX HR HZ
 rw[hr0] at HR HZ
 rw[hz0] at HZ
 simp only[hb0]
 simp only[hr0]
 simp only[hz0]
 clear hb0 hr0 hz0
 refine(rsane_any HV.out).mono ?_
 rintro e w3 ⟨rfl,hb⟩
 have HB3:=hid (HB2.out.trans (hb.mono HB2.out.size))
 have HV3:=hid (HV.out.keep hb)
 have HRC3:=hid (HRC0.out.keep hb)
 have HRB3:=hid (HRB0.out.keep hb)
 have HBX3:=hid (blk HBX.out hb)
 have HR3:=hid (blk HR.out hb)
 have HZ3:=hid (blk HZ.out hb)
 clear hb HV HBX HR HZ HB2 HRC0 HRB0
 obtain⟨q0,q1⟩:=zaH HR3.out
 have p0:=(zaA HR3.out 0).2
 have p1:=(zaA HR3.out 1).2
 have hrl:r<w3.heap.size:=lt_of_heap HR3.out
 obtain⟨z0,z1,z2,z3⟩:=cells4 HZ3.out
 have zp0:=(zaA HZ3.out 0).2
 have zp1:=(zaA HZ3.out 1).2
 have zp2:=(zaA HZ3.out 2).2
 have zp3:=(zaA HZ3.out 3).2
 have hzl:z<w3.heap.size:=lt_of_heap HZ3.out
 have hrz:r≠z:=by have:=HRZ.out;omega
 have hzr:z≠r:=Ne.symm hrz
 cases hs:sane s with
 | false=>
  have HQ:Hid (R=(none_,zeroC,1)):=HRR.out.symm.trans (close_notsane hs)
  go_wp2_with fail
  obtain⟨f0,f1⟩:=zaH (store2 HR3.out (.slice none 0 0) (.slice none 0 0))
  obtain⟨g0,g1,g2,g3⟩:=cells4 (store4 (chg_two (a:=.slice none 0 0) (b:=.slice none 0 0) HZ3.out HR3.out hzr) (.int .i64 0) (.slice none 0 0) (.int .i64 0) (.bool false))
  have hk:=blk2 (chg4 ((w3.setCell ⟨r,0,none⟩ (.slice none 0 0)).setCell ⟨r,1,none⟩ (.slice none 0 0)) z (.int .i64 0) (.slice none 0 0) (.int .i64 0) (.bool false)) (store2 HR3.out (.slice none 0 0) (.slice none 0 0)) hrz
  obtain⟨f0,f1⟩:=zaH hk
  have HF:=hid (below_set4 ((HB3.out.setCell (p:=⟨r,0,none⟩) HBR.out (.slice none 0 0)).setCell (p:=⟨r,1,none⟩) HBR.out (.slice none 0 0)) HBZ.out (.int .i64 0) (.slice none 0 0) (.int .i64 0) (.bool false))
  generalize (((((w3.setCell ⟨r,0,none⟩ (.slice none 0 0)).setCell ⟨r,1,none⟩ (.slice none 0 0)).setCell ⟨z,0,none⟩ (.int .i64 0)).setCell ⟨z,1,none⟩ (.slice none 0 0)).setCell ⟨z,2,none⟩ (.int .i64 0)).setCell ⟨z,3,none⟩ (.bool false)=wf at *
  clear q0 q1 p0 p1 z0 z1 z2 z3 zp0 zp1 zp2 zp3
  rw[HQ.out]
  exact bodyPost_ret (v:=.tuple #[.agg #[.slice none 0 0,.slice none 0 0],.agg #[.int .i64 0,.slice none 0 0,.int .i64 0,.bool false],.int .i64 1]) (by simp[results,Tryz.results53,go_sem,f0,f1,g0,g1,g2,g3]) rfl (RCloseE.zero HF.out)
 | true=>
  have HS:=hid hs
  clear hs
  obtain⟨x0,x1⟩:=zaH HBX3.out
  have hbl:b<w3.heap.size:=lt_of_heap HBX3.out
  rcases last_cases s.cs with hcs | ⟨q,ctl,hcs⟩
  ·have hm0:m=0:=by
    have:=HNC.out
    rw[hcs] at this
    simpa using this.symm
   subst hm0
   have t3:IntKind.i64.wrap (((0:Nat):Int) - 1) = -1:=by decide
   have HQ:Hid (R=(none_,zeroC,5)):=HRR.out.symm.trans (close_empty HS.out hcs)
   go_wp2_with fail
   obtain⟨f0,f1⟩:=zaH (store2 HR3.out (.slice none 0 0) (.slice none 0 0))
   obtain⟨g0,g1,g2,g3⟩:=cells4 (store4 (chg_two (a:=.slice none 0 0) (b:=.slice none 0 0) HZ3.out HR3.out hzr) (.int .i64 0) (.slice none 0 0) (.int .i64 0) (.bool false))
   have hk:=blk2 (chg4 ((w3.setCell ⟨r,0,none⟩ (.slice none 0 0)).setCell ⟨r,1,none⟩ (.slice none 0 0)) z (.int .i64 0) (.slice none 0 0) (.int .i64 0) (.bool false)) (store2 HR3.out (.slice none 0 0) (.slice none 0 0)) hrz
   obtain⟨f0,f1⟩:=zaH hk
   have HF:=hid (below_set4 ((HB3.out.setCell (p:=⟨r,0,none⟩) HBR.out (.slice none 0 0)).setCell (p:=⟨r,1,none⟩) HBR.out (.slice none 0 0)) HBZ.out (.int .i64 0) (.slice none 0 0) (.int .i64 0) (.bool false))
   generalize (((((w3.setCell ⟨r,0,none⟩ (.slice none 0 0)).setCell ⟨r,1,none⟩ (.slice none 0 0)).setCell ⟨z,0,none⟩ (.int .i64 0)).setCell ⟨z,1,none⟩ (.slice none 0 0)).setCell ⟨z,2,none⟩ (.int .i64 0)).setCell ⟨z,3,none⟩ (.bool false)=wf at *
   clear q0 q1 p0 p1 z0 z1 z2 z3 zp0 zp1 zp2 zp3 x0 x1
   rw[HQ.out]
   exact bodyPost_ret (v:=.tuple #[.agg #[.slice none 0 0,.slice none 0 0],.agg #[.int .i64 0,.slice none 0 0,.int .i64 0,.bool false],.int .i64 5]) (by simp[results,Tryz.results53,go_sem,f0,f1,g0,g1,g2,g3]) rfl (RCloseE.zero HF.out)
  ·have hm1:m=q.length+1:=by rw[<- HNC.out,hcs];simp
   have HCS:=hid hcs
   have HQ0:=hid (HRR.out.symm.trans (close_last HS.out hcs))
   have HFN:=hid (sane_fin HS.out hcs)
   obtain⟨k,hk⟩:∃k,q.length=k:=⟨_,rfl⟩
   have HK:=hid hk
   have hmk:m=k+1:=by omega
   subst hmk
   have t3:IntKind.i64.wrap (((k+1:Nat):Int) - 1)=(k:Int):=by rw[IntWalk.i64_in _ (by omega)];omega
   have t4:decide ((k:Int)<0)=false:=decide_eq_false (by omega)
   obtain⟨pp,hpp,hpc⟩:∃pp,l0[k]? = some pp/\pp.1=ctl:=by
    have e:(l0.map (·.1))[k]? = some ctl:=by rw[HML0.out,hcs,<- HK.out];simp
    rw[List.getElem?_map] at e
    cases hq:l0[k]? with
    | none=>rw[hq] at e;cases e
    | some pp=>rw[hq] at e;exact⟨pp,rfl,Option.some.inj e⟩
   obtain⟨g,off,hQe,hg,k0,k1,k2,k3,hO⟩:=ctl_at HRC3.out hpp
   obtain⟨Rf,cf,hpf,_⟩:=hO.1.form
   have hrow:=hO.1
   rw[hpf] at k1 hrow
   rw[hpc] at k0 k1 k2 k3 hrow
   subst hQe
   obtain⟨nf,hnf⟩:∃nf,ctl.fin.length=nf:=⟨_,rfl⟩
   rw[hnf] at k1 hrow
   have HROW:=hid hrow
   obtain⟨ht,hht⟩:∃ht,ctl.ht=ht:=⟨_,rfl⟩
   rw[hht] at k2
   have HHT:=hid hht
   obtain⟨op,hop⟩:∃op,ctl.op=op:=⟨_,rfl⟩
   rw[hop] at k0
   have HOP:=hid hop
   obtain⟨dd,hdd⟩:∃dd,ctl.dead=dd:=⟨_,rfl⟩
   rw[hdd] at k3
   have HDD:=hid hdd
   obtain⟨qq,hqq⟩:∃qq,off+k*4=qq:=⟨_,rfl⟩
   rw[hqq] at k0 k1 k2 k3
   have i1:(0:Int)<=(k:Int):=by omega
   have i2:(k:Int)<((k+1:Nat):Int):=by omega
   have HRl:Hid (r<w3.heap.size):=hrl
   have HZl:Hid (z<w3.heap.size):=hzl
   have HBn:=hid (zaB w3 (.cells #[.int .i64 op,.slice Rf nf cf,.int .i64 ht,.bool dd] 76))
   have HB4:=hid (HB3.out.trans (HBn.out.mono HB3.out.size))
   have HV4:=hid (HV3.out.keep HBn.out)
   have HW4:=hid (HROW.out.keep HBn.out)
   have HX4:=hid (blk HBX3.out HBn.out)
   have HR4:=hid (blk HR3.out HBn.out)
   have HZ4:=hid (blk HZ3.out HBn.out)
   have HY4:=hid (zaC w3 (.cells #[.int .i64 op,.slice Rf nf cf,.int .i64 ht,.bool dd] 76))
   have hfl:=mayE_len HFN.out
   have HFL:Hid (ctl.fin.length<=400000):=hid (by omega)
   clear hcs hm1 hk q0 q1 p0 p1 hrl hpp hpc hO hpf hrow hnf hht hop hdd hg z0 z1 z2 z3 zp0 zp1 zp2 zp3 hzl hfl
   obtain⟨yv0,yv1⟩:=zaH HX4.out
   obtain⟨y0,y1,y2,y3⟩:=cells4 HY4.out
   go_wp2_with fail
   clear x0 x1 yv0 yv1 y0 y1 y2 y3 k0 k1 k2 k3
   generalize w3.alloc (.cells #[.int .i64 op,.slice Rf nf cf,.int .i64 ht,.bool dd] 76)=w4 at *
   obtain⟨y,hy⟩:∃y,w3.heap.size=y:=⟨_,rfl⟩
   rw[hy] at HY4 HRl HZl
   simp only[hy]
   have HLW:Hid (w.heap.size<=w4.heap.size):=HB4.out.size
   refine(rwant_eo HV4.out HW4.out HL1.out HL2.out HFL.out).mono ?_
   rintro e w5 ⟨⟨P5,n5,c5,Q5,m5,d5,l,rfl,he1,he2,hml,hok,hck⟩,hb⟩
   have hy4:y<w4.heap.size:=lt_of_heap HY4.out
   have HBo:=hid (hb.trans ((zaB w5 (.cells #[.slice P5 n5 c5,.slice Q5 m5 d5] 30)).mono hb.size))
   have HB6:=hid (HB4.out.trans (HBo.out.mono HB4.out.size))
   have HE1:=hid (he1.keep (zaB w5 (.cells #[.slice P5 n5 c5,.slice Q5 m5 d5] 30)))
   have HE2:=hid (he2.keep (zaB w5 (.cells #[.slice P5 n5 c5,.slice Q5 m5 d5] 30)))
   have HO6:=hid (zaC w5 (.cells #[.slice P5 n5 c5,.slice Q5 m5 d5] 30))
   have HR6:=hid (blk HR4.out HBo.out)
   have HZ6:=hid (blk HZ4.out HBo.out)
   have HY6:=hid (blk HY4.out HBo.out)
   have HW6:=hid (HW4.out.keep HBo.out)
   have HML:=hid hml
   have HOK:=hid hok
   have HCK:Hid (∀p∈l,CtOk (w5.alloc (.cells #[.slice P5 n5 c5,.slice Q5 m5 d5] 30)) p):=fun p hp=>(hck p hp).keep (zaB w5 _)
   have HO5:Hid (w4.heap.size<=w5.heap.size):=hb.size
   have HY5:Hid (y<w4.heap.size):=hy4
   clear hb he1 he2 hml hok hck hy4 HV4 HW4 HX4 HR4 HZ4 HY4 HB4 hy
   have HWS:=hid (want_sane (xs:=ctl.fin) HS.out)
   rw[HCS.out,List.getLast?_concat] at HWS
   cases hwv:wantV (some ctl) s.vals ctl.fin.reverse with
   | none=>
    rw[hwv] at HQ0 HWS
    have e5:(wantS s ctl.fin).2=5:=by rw[HWS.out]
    rw[e5]
    clear hwv e5 HWS
    obtain⟨o0,o1⟩:=zaH HO6.out
    obtain⟨y0,y1,y2,y3⟩:=cells4 HY6.out
    obtain⟨z0,z1,z2,z3⟩:=cells4 HZ6.out
    have zp0:=(zaA HZ6.out 0).2
    have zp1:=(zaA HZ6.out 1).2
    have zp2:=(zaA HZ6.out 2).2
    have zp3:=(zaA HZ6.out 3).2
    have hzl:z<(w5.alloc (.cells #[.slice P5 n5 c5,.slice Q5 m5 d5] 30)).heap.size:=lt_of_heap HZ6.out
    obtain⟨q0,q1⟩:=zaH HR6.out
    have p0:=(zaA HR6.out 0).2
    have p1:=(zaA HR6.out 1).2
    have hrl:r<(w5.alloc (.cells #[.slice P5 n5 c5,.slice Q5 m5 d5] 30)).heap.size:=lt_of_heap HR6.out
    have HQ:Hid (R=(none_,zeroC,5)):=HQ0.out
    go_wp2_with fail
    obtain⟨f0,f1⟩:=zaH (store2 HR6.out (.slice none 0 0) (.slice none 0 0))
    obtain⟨g0,g1,g2,g3⟩:=cells4 (store4 (chg_two (a:=.slice none 0 0) (b:=.slice none 0 0) HZ6.out HR6.out hzr) (.int .i64 0) (.slice none 0 0) (.int .i64 0) (.bool false))
    have hk:=blk2 (chg4 (((w5.alloc (.cells #[.slice P5 n5 c5,.slice Q5 m5 d5] 30)).setCell ⟨r,0,none⟩ (.slice none 0 0)).setCell ⟨r,1,none⟩ (.slice none 0 0)) z (.int .i64 0) (.slice none 0 0) (.int .i64 0) (.bool false)) (store2 HR6.out (.slice none 0 0) (.slice none 0 0)) hrz
    obtain⟨f0,f1⟩:=zaH hk
    have HF:=hid (below_set4 ((HB6.out.setCell (p:=⟨r,0,none⟩) HBR.out (.slice none 0 0)).setCell (p:=⟨r,1,none⟩) HBR.out (.slice none 0 0)) HBZ.out (.int .i64 0) (.slice none 0 0) (.int .i64 0) (.bool false))
    generalize ((((((w5.alloc (.cells #[.slice P5 n5 c5,.slice Q5 m5 d5] 30)).setCell ⟨r,0,none⟩ (.slice none 0 0)).setCell ⟨r,1,none⟩ (.slice none 0 0)).setCell ⟨z,0,none⟩ (.int .i64 0)).setCell ⟨z,1,none⟩ (.slice none 0 0)).setCell ⟨z,2,none⟩ (.int .i64 0)).setCell ⟨z,3,none⟩ (.bool false)=wf at *
    clear q0 q1 p0 p1 z0 z1 z2 z3 zp0 zp1 zp2 zp3 o0 o1 y0 y1 y2 y3
    rw[HQ.out]
    exact bodyPost_ret (v:=.tuple #[.agg #[.slice none 0 0,.slice none 0 0],.agg #[.int .i64 0,.slice none 0 0,.int .i64 0,.bool false],.int .i64 5]) (by simp[results,Tryz.results53,go_sem,f0,f1,g0,g1,g2,g3]) rfl (RCloseE.zero HF.out)
   | some vs=>
    rw[hwv] at HQ0 HWS
    have e5:(wantS s ctl.fin).2=0:=by rw[HWS.out]
    have e6:(wantS s ctl.fin).1=⟨vs,q ++ [ctl]⟩:=by rw[HWS.out,<- HCS.out]
    rw[e6] at HE1 HML HOK
    rw[e5]
    obtain⟨o0,o1⟩:=zaH HO6.out
    obtain⟨y0,y1,y2,y3⟩:=cells4 HY6.out
    obtain⟨z0,z1,z2,z3⟩:=cells4 HZ6.out
    have zp0:=(zaA HZ6.out 0).2
    have zp1:=(zaA HZ6.out 1).2
    have zp2:=(zaA HZ6.out 2).2
    have zp3:=(zaA HZ6.out 3).2
    have hzl:z<(w5.alloc (.cells #[.slice P5 n5 c5,.slice Q5 m5 d5] 30)).heap.size:=lt_of_heap HZ6.out
    obtain⟨q0,q1⟩:=zaH HR6.out
    have p0:=(zaA HR6.out 0).2
    have p1:=(zaA HR6.out 1).2
    have hrl:r<(w5.alloc (.cells #[.slice P5 n5 c5,.slice Q5 m5 d5] 30)).heap.size:=lt_of_heap HR6.out
    have hn5:vs.length=n5:=by
     obtain⟨A,c',e⟩:=HE1.out.form
     injection e with _ e1 _
     exact e1.symm
    have hm5:m5=k+1:=by
     obtain⟨A,c',e⟩:=HE2.out.form
     injection e with _ e1 _
     rw[e1,<- List.length_map (f:=(·.1)),HML.out,List.length_append,HK.out]
     rfl
    subst hm5
    by_cases hlt:(n5:Int)=ht
    ·have HQ:Hid (R=(⟨vs,q⟩,ctl,0)):=by
      show _=_
      rw[HQ0.out]
      show (if (vs.length:Int)≠ctl.ht then (none_,zeroC,5) else (⟨vs,q⟩,ctl,0))=_
      rw[if_neg (by rw[hn5,HHT.out];simpa using hlt)]
     have t6:((n5:Int) != ht)=false:=by simpa using hlt
     have hcap:k<=d5/\l.length=k+1:=by
      obtain⟨A,c',e,e2,_⟩:=(HE2.out.row HCK.out).form
      injection e with _ e1 e3
      subst e3
      exact⟨by omega,e1.symm⟩
     have HLL:Hid (l.length=k+1):=hcap.2
     have j1:(0:Int)<=(k:Int):=by omega
     have j2:(k:Int)<=(d5:Int):=by have:=hcap.1;omega
     have j2':k<=d5:=hcap.1
     have op1:=(zaA HO6.out 1).2
     have hol:w5.heap.size<(w5.alloc (.cells #[.slice P5 n5 c5,.slice Q5 (k+1) d5] 30)).heap.size:=lt_of_heap HO6.out
     clear hwv e5 e6 HWS hn5 hlt hcap
     go_wp2_with fail
     clear o0 o1 op1 y0 y1 y2 y3 z0 z1 z2 z3 zp0 zp1 zp2 zp3 hzl q0 q1 p0 p1 hrl hol
     have hE:w5.alloc (.cells #[.slice P5 n5 c5,.slice Q5 k d5] 30)=(w5.alloc (.cells #[.slice P5 n5 c5,.slice Q5 (k+1) d5] 30)).setCell ⟨w5.heap.size,1,none⟩ (.slice Q5 k d5):=by go_simp
     rw[hE]
     clear hE
     obtain⟨o,ho⟩:∃o,w5.heap.size=o:=⟨_,rfl⟩
     generalize w5.alloc (.cells #[.slice P5 n5 c5,.slice Q5 (k+1) d5] 30)=w6 at *
     rw[ho] at HO6 HO5
     simp only[ho]
     clear ho
     have hro:r≠o:=by have:=HRl.out;have:=HO5.out;have:=HY5.out;omega
     have hzo:z≠o:=by have:=HZl.out;have:=HO5.out;have:=HY5.out;omega
     have hyo:y≠o:=by have:=HO5.out;have:=HY5.out;omega
     have hor:=Ne.symm hro
     have hry:r≠y:=by have:=HRl.out;omega
     have hzy:z≠y:=by have:=HZl.out;omega
     have hyr:=Ne.symm hry
     have hyz:=Ne.symm hzy
     have HO7:Hid ((w6.setCell ⟨o,1,none⟩ (.slice Q5 k d5)).heap[o]? = some (.cells #[.slice P5 n5 c5,.slice Q5 k d5] 30 (0,0))):=by
      show _=_
      rw[zaE HO6.out]
      rfl
     have HR7:=hid (chgT_low (u:=.slice Q5 k d5) HR6.out (o:=o) (i:=1) hro)
     have HZ7:=hid (chgT_low (u:=.slice Q5 k d5) HZ6.out (o:=o) (i:=1) hzo)
     have HY7:=hid (chgT_low (u:=.slice Q5 k d5) HY6.out (o:=o) (i:=1) hyo)
     have HE71:=hid (HE1.out.other (chgT_set (i:=1) (u:=.slice Q5 k d5) HO6.out) (by decide))
     have HE72:=hid ((HE2.out.take k (by omega)).other (chgT_set (i:=1) (u:=.slice Q5 k d5) HO6.out) (by decide))
     have HC7:Hid (∀p∈l,CtOk (w6.setCell ⟨o,1,none⟩ (.slice Q5 k d5)) p):=fun p hp=>ctok_box (HCK.out p hp) HO6.out
     have HW7:=hid (rowB_box (u:=.slice Q5 k d5) (i:=1) HW6.out HO6.out)
     have HB7:=hid (HB6.out.setCell (p:=⟨o,1,none⟩) (by have:=HB3.out.size;have:=HO5.out;have:=HY5.out;have:=HRl.out;have:=HBR.out;show _<=o;omega) (.slice Q5 k d5))
     generalize w6.setCell ⟨o,1,none⟩ (.slice Q5 k d5)=w7 at *
     clear HO6 HR6 HZ6 HY6 HE1 HE2 HCK HW6 HB6
     obtain⟨o0,o1⟩:=zaH HO7.out
     obtain⟨y0,y1,y2,y3⟩:=cells4 HY7.out
     obtain⟨z0,z1,z2,z3⟩:=cells4 HZ7.out
     have zp0:=(zaA HZ7.out 0).2
     have zp1:=(zaA HZ7.out 1).2
     have zp2:=(zaA HZ7.out 2).2
     have zp3:=(zaA HZ7.out 3).2
     have hzl:z<w7.heap.size:=lt_of_heap HZ7.out
     obtain⟨q0,q1⟩:=zaH HR7.out
     have p0:=(zaA HR7.out 0).2
     have p1:=(zaA HR7.out 1).2
     have hrl:r<w7.heap.size:=lt_of_heap HR7.out
     go_region
     have HR8:=hid (store2 HR7.out (.slice P5 n5 c5) (.slice Q5 k d5))
     have HZ8:=hid (chg_two (a:=.slice P5 n5 c5) (b:=.slice Q5 k d5) HZ7.out HR7.out hzr)
     have HE81:=hid ((HE71.out.other (chgT_set (i:=0) (u:=.slice P5 n5 c5) HR7.out) (by decide)).other (chgT_set (i:=1) (u:=.slice Q5 k d5) (zaE HR7.out _)) (by decide))
     have HE82:=hid ((HE72.out.other (chgT_set (i:=0) (u:=.slice P5 n5 c5) HR7.out) (by decide)).other (chgT_set (i:=1) (u:=.slice Q5 k d5) (zaE HR7.out _)) (by decide))
     have HC8:Hid (∀p∈l,CtOk ((w7.setCell ⟨r,0,none⟩ (.slice P5 n5 c5)).setCell ⟨r,1,none⟩ (.slice Q5 k d5)) p):=fun p hp=>ctok_box (ctok_box (HC7.out p hp) HR7.out) (zaE HR7.out _)
     have HW8:=hid (rowB_box (u:=.slice Q5 k d5) (i:=1) (rowB_box (u:=.slice P5 n5 c5) (i:=0) HW7.out HR7.out) (zaE HR7.out _))
     have HB8:=hid ((HB7.out.setCell (p:=⟨r,0,none⟩) HBR.out (.slice P5 n5 c5)).setCell (p:=⟨r,1,none⟩) HBR.out (.slice Q5 k d5))
     generalize (w7.setCell ⟨r,0,none⟩ (.slice P5 n5 c5)).setCell ⟨r,1,none⟩ (.slice Q5 k d5)=w8 at *
     clear o0 o1 y0 y1 y2 y3 z0 z1 z2 z3 zp0 zp1 zp2 zp3 hzl q0 q1 p0 p1 hrl
     have HCH:=hid (chg4 w8 z (.int .i64 op) (.slice Rf nf cf) (.int .i64 ht) (.bool dd))
     have HN8:=hid (no8_ctl HZ8.out (by intro x;simp) (by intro x;simp) (by intro x;simp) (by intro x;simp))
     have HS8:=hid (size4 w8 z (.int .i64 op) (.slice Rf nf cf) (.int .i64 ht) (.bool dd))
     have HF:=hid (below_set4 HB8.out HBZ.out (.int .i64 op) (.slice Rf nf cf) (.int .i64 ht) (.bool dd))
     obtain⟨g0,g1,g2,g3⟩:=cells4 (store4 HZ8.out (.int .i64 op) (.slice Rf nf cf) (.int .i64 ht) (.bool dd))
     obtain⟨f0,f1⟩:=zaH (blk2 HCH.out HR8.out hrz)
     generalize (((w8.setCell ⟨z,0,none⟩ (.int .i64 op)).setCell ⟨z,1,none⟩ (.slice Rf nf cf)).setCell ⟨z,2,none⟩ (.int .i64 ht)).setCell ⟨z,3,none⟩ (.bool dd)=w9 at *
     have hsz:w8.heap.size<=w9.heap.size:=Nat.le_of_eq HS8.out.symm
     have hk9:∀k',w4.heap.size<=k'->k'<w8.heap.size->w9.heap[k']? = w8.heap[k']?:=fun k' h1 h2=>HCH.out k' h2 (by intro e;have:=Option.some.inj e;have:=HZl.out;have:=HY5.out;omega)
     have HG1:=hid ((HE81.out.stay hk9).keep (zaI _))
     have HG2:=hid ((HE82.out.stay hk9).keep (zaI _))
     have HGC:Hid (∀p∈l.take k,CtOk w9.drew p):=fun p hp=>CtOk.keep ⟨rowB_chg (HC8.out p (List.mem_of_mem_take hp)).1 HN8.out HCH.out hsz,(HC8.out p (List.mem_of_mem_take hp)).2⟩ (zaI _)
     have HGW:=hid ((rowB_chg HW8.out HN8.out HCH.out hsz).keep (zaI _))
     have HFD:=hid (HF.out.drew)
     have f0:w9.drew.cell? ⟨r,0,none⟩=some (.slice P5 n5 c5):=f0
     have f1:w9.drew.cell? ⟨r,1,none⟩=some (.slice Q5 k d5):=f1
     have g0:w9.drew.cell? ⟨z,0,none⟩=some (.int .i64 op):=g0
     have g1:w9.drew.cell? ⟨z,1,none⟩=some (.slice Rf nf cf):=g1
     have g2:w9.drew.cell? ⟨z,2,none⟩=some (.int .i64 ht):=g2
     have g3:w9.drew.cell? ⟨z,3,none⟩=some (.bool dd):=g3
     generalize w9.drew=wf at *
     clear hsz hk9
     go_wp2_with fail
     rw[HQ.out]
     have hlm:(l.take k).map (·.1)=q:=by rw[List.map_take,HML.out,<- HK.out,List.take_left]
     exact bodyPost_ret (v:=.tuple #[.agg #[.slice P5 n5 c5,.slice Q5 k d5],.agg #[.int .i64 op,.slice Rf nf cf,.int .i64 ht,.bool dd],.int .i64 0]) (by simp[results,Tryz.results53,go_sem,f0,f1,g0,g1,g2,g3]) rfl ⟨⟨_,_,_,_,_,_,l.take k,Rf,nf,cf,by rw[HOP.out,HHT.out,HDD.out],HG1.out.low HLW.out,HG2.out.low HLW.out,hlm,HOK.out,HGC.out,HGW.out⟩,HFD.out⟩
    ·have t6:((n5:Int) != ht)=true:=by simpa using hlt
     have HQn:Hid (R=(none_,zeroC,5)):=by
      show _=_
      rw[HQ0.out]
      show (if (vs.length:Int)≠ctl.ht then (none_,zeroC,5) else (⟨vs,q⟩,ctl,0))=_
      rw[if_pos (by rw[hn5,HHT.out];exact hlt)]
     clear hwv e5 e6 HWS hn5 hlt HQ0
     have HQ:Hid (R=(none_,zeroC,5)):=HQn.out
     go_wp2_with fail
     obtain⟨f0,f1⟩:=zaH (store2 HR6.out (.slice none 0 0) (.slice none 0 0))
     obtain⟨g0,g1,g2,g3⟩:=cells4 (store4 (chg_two (a:=.slice none 0 0) (b:=.slice none 0 0) HZ6.out HR6.out hzr) (.int .i64 0) (.slice none 0 0) (.int .i64 0) (.bool false))
     have hk:=blk2 (chg4 (((w5.alloc (.cells #[.slice P5 n5 c5,.slice Q5 (k+1) d5] 30)).setCell ⟨r,0,none⟩ (.slice none 0 0)).setCell ⟨r,1,none⟩ (.slice none 0 0)) z (.int .i64 0) (.slice none 0 0) (.int .i64 0) (.bool false)) (store2 HR6.out (.slice none 0 0) (.slice none 0 0)) hrz
     obtain⟨f0,f1⟩:=zaH hk
     have HF:=hid (below_set4 ((HB6.out.setCell (p:=⟨r,0,none⟩) HBR.out (.slice none 0 0)).setCell (p:=⟨r,1,none⟩) HBR.out (.slice none 0 0)) HBZ.out (.int .i64 0) (.slice none 0 0) (.int .i64 0) (.bool false))
     generalize ((((((w5.alloc (.cells #[.slice P5 n5 c5,.slice Q5 (k+1) d5] 30)).setCell ⟨r,0,none⟩ (.slice none 0 0)).setCell ⟨r,1,none⟩ (.slice none 0 0)).setCell ⟨z,0,none⟩ (.int .i64 0)).setCell ⟨z,1,none⟩ (.slice none 0 0)).setCell ⟨z,2,none⟩ (.int .i64 0)).setCell ⟨z,3,none⟩ (.bool false)=wf at *
     clear q0 q1 p0 p1 z0 z1 z2 z3 zp0 zp1 zp2 zp3 o0 o1 y0 y1 y2 y3
     rw[HQ.out]
     exact bodyPost_ret (v:=.tuple #[.agg #[.slice none 0 0,.slice none 0 0],.agg #[.int .i64 0,.slice none 0 0,.int .i64 0,.bool false],.int .i64 5]) (by simp[results,Tryz.results53,go_sem,f0,f1,g0,g1,g2,g3]) rfl (RCloseE.zero HF.out)
end Go.Proofs.YtlappkflnlbfcaaGreatDoor.Stk
end
section
namespace Go.Proofs.YtlappkflnlbfcaaGreatDoor.Stk
open Lib (hid)
open Go.ChangeShapes Go.WideShapes Go.ChangeAt Go.RowKit Go.Joins Row9
set_option maxRecDepth 100000
set_option maxHeartbeats 400000
set_option linter.unusedVariables false
theorem cU8:Tryz.prog.cellsOf 5=1:=by kernel_rfl
theorem cInt:Tryz.prog.cellsOf 3=1:=by kernel_rfl
theorem cBool:Tryz.prog.cellsOf 4=1:=by kernel_rfl
theorem cSl:Tryz.prog.cellsOf 25=1:=by kernel_rfl
theorem cCtl:Tryz.prog.cellsOf 76=4:=by kernel_rfl
theorem cStk:Tryz.prog.cellsOf 30=2:=by kernel_rfl
section
variable {H:Type} {enc:TypeId×Value->H} {w:World} {base:Nat}
theorem byte_each {n:Nat}{cs:List Value}{y:DataW H×List MemPlace}(hl:cs.length=1)(h:DataW.trod enc Tryz.prog w base (fun _=>true) true n 5 cs=some y):∃q:Int,elB.ok w q/\elB.enc q=cs:=by
 obtain⟨op,e0,_,w0⟩:=DataW.trod_int Tryz.underlying5 (x:=y) h
 refine⟨op,?_,e0.symm⟩
 have:=bounds_u8 w0
 exact⟨by omega,by omega⟩
theorem bytes_of {n:Nat}{v:Value}{y:DataW H×List MemPlace}(h:DataW.trod enc Tryz.prog w base (fun _=>true) true n 25 [v]=some y):∃l,Row elB w v l:=
 row_of elB Tryz.underlying25 cU8 (fun hl hh=>byte_each hl hh) h
theorem w64_of {x:Int}(h:(Lit.int .i64 x).wf=true):w64 x:=by
 have:=bounds_i64 h
 unfold w64
 omega
theorem ctl_each {n:Nat}{cs:List Value}{y:DataW H×List MemPlace}(hl:cs.length=4)(h:DataW.trod enc Tryz.prog w base (fun _=>true) true n 76 cs=some y):∃q:CtV,elD.ok w q/\elD.enc q=cs:=by
 match cs,hl with
 | [c0,c1,c2,c3],_=>
  obtain⟨ys,m,_,_,_,hlen,hf⟩:=DataW.trod_struct Tryz.underlying76 h
  have h0:DataW.trod enc Tryz.prog w base (fun _=>true) true m 3 (([c0,c1,c2,c3].drop 0).take (Tryz.prog.cellsOf 3))=ys[0]?:=hf 0 _ rfl
  have h1:DataW.trod enc Tryz.prog w base (fun _=>true) true m 25 (([c0,c1,c2,c3].drop 1).take (Tryz.prog.cellsOf 25))=ys[1]?:=hf 1 _ rfl
  have h2:DataW.trod enc Tryz.prog w base (fun _=>true) true m 3 (([c0,c1,c2,c3].drop 2).take (Tryz.prog.cellsOf 3))=ys[2]?:=hf 2 _ rfl
  have h3:DataW.trod enc Tryz.prog w base (fun _=>true) true m 4 (([c0,c1,c2,c3].drop 3).take (Tryz.prog.cellsOf 4))=ys[3]?:=hf 3 _ rfl
  rw[cInt] at h0 h2
  rw[cSl] at h1
  rw[cBool] at h3
  match ys,hlen with
  | [y0,y1,y2,y3],_=>
   obtain⟨a,e0,_,w0⟩:=DataW.trod_int Tryz.underlying3 (x:=y0) (by rw[h0];rfl)
   obtain⟨b,e2,_,w2⟩:=DataW.trod_int Tryz.underlying3 (x:=y2) (by rw[h2];rfl)
   obtain⟨l,hr⟩:=bytes_of (v:=c1) (y:=y1) (by simpa using h1)
   obtain⟨x,e3,_⟩:=DataW.trod_bool Tryz.underlying4 (x:=y3) (by rw[h3];rfl)
   simp at e0 e2 e3
   subst e0 e2 e3
   exact⟨(⟨a,l,b,x⟩,c1),⟨hr,w64_of w0,w64_of w2⟩,rfl⟩
theorem ctls_of {n:Nat}{v:Value}{y:DataW H×List MemPlace}(h:DataW.trod enc Tryz.prog w base (fun _=>true) true n 28 [v]=some y):∃l,Row elD w v l:=
 row_of elD Tryz.underlying28 cCtl (fun hl hh=>ctl_each hl hh) h
theorem st_of {r:Reach}{b0:Nat}{v:Value}{d:DataW H}{p:List MemPlace}(hv:Value.okWide Tryz.prog w r b0 30 v)(h:DataW.Trod enc Tryz.prog w base (fun _=>true) true 30 v d p):∃s,StIs elD w v s:=by
 obtain⟨c0,c1,y0,y1,n,rfl,_,_,h0,h1⟩:=open_agg2 Tryz.underlying30 (by kernel_rfl) cStk hv h
 obtain⟨vs,h2⟩:=bytes_of h0
 obtain⟨l,h3⟩:=ctls_of h1
 exact⟨⟨vs,l.map (·.1)⟩,c0,c1,l,rfl,h2,h3,rfl⟩
end
end Go.Proofs.YtlappkflnlbfcaaGreatDoor.Stk
end
