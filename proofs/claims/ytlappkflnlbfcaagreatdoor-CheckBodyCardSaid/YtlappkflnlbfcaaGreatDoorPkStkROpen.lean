/- StkRClose, StkROpen. -/
import Derived.Test.YtlappkflnlbfcaaGreatDoorPkStkRWant
import Derived.Deep.RegionLaw
section
namespace Go.Proofs.YtlappkflnlbfcaaGreatDoor.Stk
open Lib (hid)
open Go.RowKit Row9
set_option maxRecDepth 100000
set_option maxHeartbeats 4000000
set_option linter.unusedVariables false
def RClose (r:Stk×Ctl×Int)(w:World)(e:Ending)(w':World):Prop:=(∃P n c Q m d R k f,e= .returned (.tuple #[.agg #[.slice P n c,.slice Q m d],.agg #[.int .i64 r.2.1.op,.slice R k f,.int .i64 r.2.1.ht,.bool r.2.1.dead],.int .i64 r.2.2])/\StIs elD w' (.agg #[.slice P n c,.slice Q m d]) r.1/\Row elB w' (.slice R k f) r.2.1.fin)/\Below w.heap.size w w'
theorem RClose.zero {w w':World}{i:Int}(hb:Below w.heap.size w w'):RClose (none_,zeroC,i) w (.returned (.tuple #[.agg #[.slice none 0 0,.slice none 0 0],.agg #[.int .i64 0,.slice none 0 0,.int .i64 0,.bool false],.int .i64 i])) w':=
 ⟨⟨_,_,_,_,_,_,_,_,_,rfl,StIs.none_ elD w',Row.nil _ _⟩,hb⟩
theorem sane_fin {s:Stk}{q:List Ctl}{c:Ctl}(hs:sane s=true)(h:s.cs=q ++ [c]):mayE c.fin=true:=by
 obtain⟨z,h1,_⟩:=(sane_iff s).1 hs
 rw[h,sgo_append] at h1
 cases hq:sgo 0 q with
 | none=>rw[hq] at h1;cases h1
 | some z'=>
  rw[hq] at h1
  simp only[sgo] at h1
  split at h1
  ·rename_i hc
   rw[Bool.and_eq_true] at hc
   exact hc.1
  ·cases h1
theorem close_notsane {s:Stk}(h:sane s=false):zaM s=(none_,zeroC,1):=by unfold zaM;rw[if_pos h]
theorem close_empty {s:Stk}(h:sane s=true)(hc:s.cs = []):zaM s=(none_,zeroC,5):=by
 unfold zaM
 rw[if_neg (by rw[h];decide),hc]
 rfl
theorem close_last {s:Stk}{q:List Ctl}{c:Ctl}(h:sane s=true)(hc:s.cs=q ++ [c]):zaM s=match wantV (some c) s.vals c.fin.reverse with
  | none=>(none_,zeroC,5)
  | some vs=>if (vs.length:Int)≠c.ht then (none_,zeroC,5) else (⟨vs,q⟩,c,0):=by
 unfold zaM
 rw[if_neg (by rw[h];decide),hc,List.getLast?_concat,List.dropLast_concat]
 rfl
def No8 (w:World)(z:Nat):Prop:=∀i x,w.cell? ⟨z,i,none⟩≠some (.int .u8 x)
theorem rowB_chg {w w':World}{z:Nat}{v:Value}{l:List Int}(h:Row elB w v l)(hz:No8 w z)(hc:Chg w w' (some z))(hs:w.heap.size<=w'.heap.size):Row elB w' v l:=by
 obtain⟨⟨B,d,h1,h2,h3,h4⟩,h5⟩:=h
 refine⟨⟨B,d,h1,h2,h3,fun h0=>?_⟩,h5⟩
 obtain⟨g,off,e,hg,hB⟩:=h4 h0
 have hgz:g≠z:=by
  intro e
  subst e
  obtain⟨p,hp⟩:∃p,l[0]? = some p:=by
   cases l with
   | nil=>exact absurd rfl h0
   | cons p l=>exact ⟨p,rfl⟩
  exact hz _ _ (hB 0 p hp 0 _ rfl)
 refine⟨g,off,e,Nat.lt_of_lt_of_le hg hs,fun j p hj i' u' hu=>?_⟩
 have h6:=hB j p hj i' u' hu
 have h7:=hc g hg (by intro e;exact hgz (Option.some.inj e))
 simp only[World.cell?] at h6 ⊢
 rw[h7]
 exact h6
theorem no8_ctl {w:World}{z:Nat}{a b c d:Value}{t:TypeId}(h:w.heap[z]? = some (.cells #[a,b,c,d] t (0,0)))(ha:∀x,a≠.int .u8 x)(hb:∀x,b≠.int .u8 x)(hc:∀x,c≠.int .u8 x)(hd:∀x,d≠.int .u8 x):No8 w z:=by
 intro i x
 rw[(zaA h i).1]
 rcases i with _ | _ | _ | _ | i
 ·simpa using ha x
 ·simpa using hb x
 ·simpa using hc x
 ·simpa using hd x
 ·simp
theorem store4 {w:World}{z:Nat}{a0 b0 c0 d0:Value}{t:TypeId}(h:w.heap[z]? = some (.cells #[a0,b0,c0,d0] t (0,0)))(a b c d:Value):((((w.setCell ⟨z,0,none⟩ a).setCell ⟨z,1,none⟩ b).setCell ⟨z,2,none⟩ c).setCell ⟨z,3,none⟩ d).heap[z]? = some (.cells #[a,b,c,d] t (0,0)):=by
 rw[zaE (zaE (zaE (zaE h _) _) _)]
 rfl
theorem size4 (w:World)(z:Nat)(a b c d:Value):((((w.setCell ⟨z,0,none⟩ a).setCell ⟨z,1,none⟩ b).setCell ⟨z,2,none⟩ c).setCell ⟨z,3,none⟩ d).heap.size=w.heap.size:=by simp only[zaJ]
theorem below_set4 {B z:Nat}{w w':World}(h:Below B w w')(hz:B<=z)(a b c d:Value):Below B w ((((w'.setCell ⟨z,0,none⟩ a).setCell ⟨z,1,none⟩ b).setCell ⟨z,2,none⟩ c).setCell ⟨z,3,none⟩ d):=
 (((h.setCell (p:=⟨z,0,none⟩) hz a).setCell (p:=⟨z,1,none⟩) hz b).setCell (p:=⟨z,2,none⟩) hz c).setCell (p:=⟨z,3,none⟩) hz d
theorem blk2 {w w':World}{z k:Nat}{o:Obj}(hc:Chg w w' (some z))(h:w.heap[k]? = some o)(hne:k≠z):w'.heap[k]? = some o:=(hc k (lt_of_heap h) (fun e=>hne (Option.some.inj e))).trans h
theorem rclose_any {v:Value}{s:Stk}{w:World}(h:StIs elD w v s)(h1:s.vals.length<=400000)(h2:s.cs.length<=400000):
  Calls Tryz.prog 53 #[v] w (RClose (zaM s) w):=by
 obtain⟨P,np,cp,Q,m,d,rfl⟩:=StIs.form (T:=elD) h
 obtain⟨l0,hrb0,hrc0,hml0,hnv,hnl0,hnc⟩:=h.rows
 have HB2:=hid (below3 w (.cells #[.slice P np cp,.slice Q m d] 30) (.cells #[.slice none 0 0,.slice none 0 0] 30) (.cells #[.int .i64 0,.slice none 0 0,.int .i64 0,.bool false] 76))
 have HBX:=hid (blk (blk (zaC w (.cells #[.slice P np cp,.slice Q m d] 30)) (zaB (w.alloc (.cells #[.slice P np cp,.slice Q m d] 30)) (.cells #[.slice none 0 0,.slice none 0 0] 30))) (zaB ((w.alloc (.cells #[.slice P np cp,.slice Q m d] 30)).alloc (.cells #[.slice none 0 0,.slice none 0 0] 30)) (.cells #[.int .i64 0,.slice none 0 0,.int .i64 0,.bool false] 76)))
 have HR:=hid (blk (zaC (w.alloc (.cells #[.slice P np cp,.slice Q m d] 30)) (.cells #[.slice none 0 0,.slice none 0 0] 30)) (zaB ((w.alloc (.cells #[.slice P np cp,.slice Q m d] 30)).alloc (.cells #[.slice none 0 0,.slice none 0 0] 30)) (.cells #[.int .i64 0,.slice none 0 0,.int .i64 0,.bool false] 76)))
 have HZ:=hid (zaC ((w.alloc (.cells #[.slice P np cp,.slice Q m d] 30)).alloc (.cells #[.slice none 0 0,.slice none 0 0] 30)) (.cells #[.int .i64 0,.slice none 0 0,.int .i64 0,.bool false] 76))
 have HV:=hid (h.keep HB2.out)
 simp only[zaD] at HR HZ
 have HL1:=hid h1
 have HL2:=hid h2
 have HNC:=hid hnc
 have HNV:=hid hnv
 have HRC0:=hid (hrc0.keep HB2.out)
 have HRB0:=hid (hrb0.keep HB2.out)
 have HML0:=hid hml0
 obtain⟨R,hR⟩:∃R,zaM s=R:=⟨_,rfl⟩
 have HRR:=hid hR
 rw[hR]
 have hbig:m<=400000:=by omega
 have hbigv:np<=400000:=by omega
 clear h h1 h2 hR hrb0 hrc0 hml0 hnv hnl0 hnc
 go_enter Tryz.func53,Tryz.ntmps53
 go_wp2_with fail
 generalize (((w.alloc (.cells #[.slice P np cp,.slice Q m d] 30)).alloc (.cells #[.slice none 0 0,.slice none 0 0] 30)).alloc (.cells #[.int .i64 0,.slice none 0 0,.int .i64 0,.bool false] 76))=w2 at *
 obtain⟨b,hb0⟩:∃b,w.heap.size=b:=⟨_,rfl⟩
 obtain⟨r,hr0⟩:∃r,b+1=r:=⟨_,rfl⟩
 obtain⟨z,hz0⟩:∃z,r+1=z:=⟨_,rfl⟩
 have HBR:Hid (w.heap.size<=r):=hid (by omega)
 have HBN:Hid (b≠r):=hid (by omega)
 have HBB:Hid (w.heap.size<=b):=hid (by omega)
 have HBZ:Hid (w.heap.size<=z):=hid (by omega)
 have HRZ:Hid (r<z):=hid (by omega)
 rw[hb0] at HBX HR HZ
 rw[hr0] at HR HZ
 rw[hz0] at HZ
 simp only[hb0]
 simp only[hr0]
 simp only[hz0]
 clear hb0 hr0 hz0
 refine(rsane_any HV.out).mono ?_
 rintro e w3 ⟨rfl,hb⟩
 have HB3:=hid (HB2.out.trans (hb.mono HB2.out.size))
 have HV3:=hid (HV.out.keep hb)
 have HRC3:=hid (HRC0.out.keep hb)
 have HRB3:=hid (HRB0.out.keep hb)
 have HBX3:=hid (blk HBX.out hb)
 have HR3:=hid (blk HR.out hb)
 have HZ3:=hid (blk HZ.out hb)
 clear hb HV HBX HR HZ HB2 HRC0 HRB0
 obtain⟨q0,q1⟩:=zaH HR3.out
 have p0:=(zaA HR3.out 0).2
 have p1:=(zaA HR3.out 1).2
 have hrl:r<w3.heap.size:=lt_of_heap HR3.out
 obtain⟨z0,z1,z2,z3⟩:=cells4 HZ3.out
 have zp0:=(zaA HZ3.out 0).2
 have zp1:=(zaA HZ3.out 1).2
 have zp2:=(zaA HZ3.out 2).2
 have zp3:=(zaA HZ3.out 3).2
 have hzl:z<w3.heap.size:=lt_of_heap HZ3.out
 have hrz:r≠z:=by have:=HRZ.out;omega
 have hzr:z≠r:=Ne.symm hrz
 cases hs:sane s with
 | false=>
  have HQ:Hid (R=(none_,zeroC,1)):=HRR.out.symm.trans (close_notsane hs)
  go_wp2_with fail
  obtain⟨f0,f1⟩:=zaH (store2 HR3.out (.slice none 0 0) (.slice none 0 0))
  obtain⟨g0,g1,g2,g3⟩:=cells4 (store4 (chg_two (a:=.slice none 0 0) (b:=.slice none 0 0) HZ3.out HR3.out hzr) (.int .i64 0) (.slice none 0 0) (.int .i64 0) (.bool false))
  have hk:=blk2 (chg4 ((w3.setCell ⟨r,0,none⟩ (.slice none 0 0)).setCell ⟨r,1,none⟩ (.slice none 0 0)) z (.int .i64 0) (.slice none 0 0) (.int .i64 0) (.bool false)) (store2 HR3.out (.slice none 0 0) (.slice none 0 0)) hrz
  obtain⟨f0,f1⟩:=zaH hk
  have HF:=hid (below_set4 ((HB3.out.setCell (p:=⟨r,0,none⟩) HBR.out (.slice none 0 0)).setCell (p:=⟨r,1,none⟩) HBR.out (.slice none 0 0)) HBZ.out (.int .i64 0) (.slice none 0 0) (.int .i64 0) (.bool false))
  generalize (((((w3.setCell ⟨r,0,none⟩ (.slice none 0 0)).setCell ⟨r,1,none⟩ (.slice none 0 0)).setCell ⟨z,0,none⟩ (.int .i64 0)).setCell ⟨z,1,none⟩ (.slice none 0 0)).setCell ⟨z,2,none⟩ (.int .i64 0)).setCell ⟨z,3,none⟩ (.bool false)=wf at *
  clear q0 q1 p0 p1 z0 z1 z2 z3 zp0 zp1 zp2 zp3
  rw[HQ.out]
  exact bodyPost_ret (v:=.tuple #[.agg #[.slice none 0 0,.slice none 0 0],.agg #[.int .i64 0,.slice none 0 0,.int .i64 0,.bool false],.int .i64 1]) (by simp[results,Tryz.results53,go_sem,f0,f1,g0,g1,g2,g3]) rfl (RClose.zero HF.out)
 | true=>
  have HS:=hid hs
  clear hs
  obtain⟨x0,x1⟩:=zaH HBX3.out
  have hbl:b<w3.heap.size:=lt_of_heap HBX3.out
  rcases last_cases s.cs with hcs | ⟨q,ctl,hcs⟩
  ·have hm0:m=0:=by
    have:=HNC.out
    rw[hcs] at this
    simpa using this.symm
   subst hm0
   have t3:IntKind.i64.wrap (((0:Nat):Int) - 1) = -1:=by decide
   have HQ:Hid (R=(none_,zeroC,5)):=HRR.out.symm.trans (close_empty HS.out hcs)
   go_wp2_with fail
   obtain⟨f0,f1⟩:=zaH (store2 HR3.out (.slice none 0 0) (.slice none 0 0))
   obtain⟨g0,g1,g2,g3⟩:=cells4 (store4 (chg_two (a:=.slice none 0 0) (b:=.slice none 0 0) HZ3.out HR3.out hzr) (.int .i64 0) (.slice none 0 0) (.int .i64 0) (.bool false))
   have hk:=blk2 (chg4 ((w3.setCell ⟨r,0,none⟩ (.slice none 0 0)).setCell ⟨r,1,none⟩ (.slice none 0 0)) z (.int .i64 0) (.slice none 0 0) (.int .i64 0) (.bool false)) (store2 HR3.out (.slice none 0 0) (.slice none 0 0)) hrz
   obtain⟨f0,f1⟩:=zaH hk
   have HF:=hid (below_set4 ((HB3.out.setCell (p:=⟨r,0,none⟩) HBR.out (.slice none 0 0)).setCell (p:=⟨r,1,none⟩) HBR.out (.slice none 0 0)) HBZ.out (.int .i64 0) (.slice none 0 0) (.int .i64 0) (.bool false))
   generalize (((((w3.setCell ⟨r,0,none⟩ (.slice none 0 0)).setCell ⟨r,1,none⟩ (.slice none 0 0)).setCell ⟨z,0,none⟩ (.int .i64 0)).setCell ⟨z,1,none⟩ (.slice none 0 0)).setCell ⟨z,2,none⟩ (.int .i64 0)).setCell ⟨z,3,none⟩ (.bool false)=wf at *
   clear q0 q1 p0 p1 z0 z1 z2 z3 zp0 zp1 zp2 zp3 x0 x1
   rw[HQ.out]
   exact bodyPost_ret (v:=.tuple #[.agg #[.slice none 0 0,.slice none 0 0],.agg #[.int .i64 0,.slice none 0 0,.int .i64 0,.bool false],.int .i64 5]) (by simp[results,Tryz.results53,go_sem,f0,f1,g0,g1,g2,g3]) rfl (RClose.zero HF.out)
  ·have hm1:m=q.length+1:=by rw[<- HNC.out,hcs];simp
   have HCS:=hid hcs
   have HQ0:=hid (HRR.out.symm.trans (close_last HS.out hcs))
   have HFN:=hid (sane_fin HS.out hcs)
   obtain⟨k,hk⟩:∃k,q.length=k:=⟨_,rfl⟩
   have HK:=hid hk
   have hmk:m=k+1:=by omega
   subst hmk
   have t3:IntKind.i64.wrap (((k+1:Nat):Int) - 1)=(k:Int):=by rw[IntWalk.i64_in _ (by omega)];omega
   have t4:decide ((k:Int)<0)=false:=decide_eq_false (by omega)
   obtain⟨pp,hpp,hpc⟩:∃pp,l0[k]? = some pp/\pp.1=ctl:=by
    have e:(l0.map (·.1))[k]? = some ctl:=by rw[HML0.out,hcs,<- HK.out];simp
    rw[List.getElem?_map] at e
    cases hq:l0[k]? with
    | none=>rw[hq] at e;cases e
    | some pp=>rw[hq] at e;exact⟨pp,rfl,Option.some.inj e⟩
   obtain⟨g,off,hQe,hg,k0,k1,k2,k3,hO⟩:=ctl_at HRC3.out hpp
   obtain⟨Rf,cf,hpf,_⟩:=hO.1.form
   have hrow:=hO.1
   rw[hpf] at k1 hrow
   rw[hpc] at k0 k1 k2 k3 hrow
   subst hQe
   obtain⟨nf,hnf⟩:∃nf,ctl.fin.length=nf:=⟨_,rfl⟩
   rw[hnf] at k1 hrow
   have HROW:=hid hrow
   obtain⟨ht,hht⟩:∃ht,ctl.ht=ht:=⟨_,rfl⟩
   rw[hht] at k2
   have HHT:=hid hht
   obtain⟨op,hop⟩:∃op,ctl.op=op:=⟨_,rfl⟩
   rw[hop] at k0
   have HOP:=hid hop
   obtain⟨dd,hdd⟩:∃dd,ctl.dead=dd:=⟨_,rfl⟩
   rw[hdd] at k3
   have HDD:=hid hdd
   obtain⟨qq,hqq⟩:∃qq,off+k*4=qq:=⟨_,rfl⟩
   rw[hqq] at k0 k1 k2 k3
   have i1:(0:Int)<=(k:Int):=by omega
   have i2:(k:Int)<((k+1:Nat):Int):=by omega
   have HRl:Hid (r<w3.heap.size):=hrl
   have HZl:Hid (z<w3.heap.size):=hzl
   have HBn:=hid (zaB w3 (.cells #[.int .i64 op,.slice Rf nf cf,.int .i64 ht,.bool dd] 76))
   have HB4:=hid (HB3.out.trans (HBn.out.mono HB3.out.size))
   have HV4:=hid (HV3.out.keep HBn.out)
   have HW4:=hid (HROW.out.keep HBn.out)
   have HX4:=hid (blk HBX3.out HBn.out)
   have HR4:=hid (blk HR3.out HBn.out)
   have HZ4:=hid (blk HZ3.out HBn.out)
   have HY4:=hid (zaC w3 (.cells #[.int .i64 op,.slice Rf nf cf,.int .i64 ht,.bool dd] 76))
   have hfl:=mayE_len HFN.out
   have HFL:Hid (ctl.fin.length<=400000):=hid (by omega)
   clear hcs hm1 hk q0 q1 p0 p1 hrl hpp hpc hO hpf hrow hnf hht hop hdd hg z0 z1 z2 z3 zp0 zp1 zp2 zp3 hzl hfl
   obtain⟨yv0,yv1⟩:=zaH HX4.out
   obtain⟨y0,y1,y2,y3⟩:=cells4 HY4.out
   go_wp2_with fail
   clear x0 x1 yv0 yv1 y0 y1 y2 y3 k0 k1 k2 k3
   generalize w3.alloc (.cells #[.int .i64 op,.slice Rf nf cf,.int .i64 ht,.bool dd] 76)=w4 at *
   obtain⟨y,hy⟩:∃y,w3.heap.size=y:=⟨_,rfl⟩
   rw[hy] at HY4 HRl HZl
   simp only[hy]
   refine(rwant_eo HV4.out HW4.out HL1.out HL2.out HFL.out).mono ?_
   rintro e w5 ⟨⟨P5,n5,c5,Q5,m5,d5,l,rfl,he1,he2,hml,hok,hck⟩,hb⟩
   have hy4:y<w4.heap.size:=lt_of_heap HY4.out
   have HBo:=hid (hb.trans ((zaB w5 (.cells #[.slice P5 n5 c5,.slice Q5 m5 d5] 30)).mono hb.size))
   have HB6:=hid (HB4.out.trans (HBo.out.mono HB4.out.size))
   have HE1:=hid (he1.keep (zaB w5 (.cells #[.slice P5 n5 c5,.slice Q5 m5 d5] 30)))
   have HE2:=hid (he2.keep (zaB w5 (.cells #[.slice P5 n5 c5,.slice Q5 m5 d5] 30)))
   have HO6:=hid (zaC w5 (.cells #[.slice P5 n5 c5,.slice Q5 m5 d5] 30))
   have HR6:=hid (blk HR4.out HBo.out)
   have HZ6:=hid (blk HZ4.out HBo.out)
   have HY6:=hid (blk HY4.out HBo.out)
   have HW6:=hid (HW4.out.keep HBo.out)
   have HML:=hid hml
   have HOK:=hid hok
   have HCK:Hid (∀p∈l,CtOk (w5.alloc (.cells #[.slice P5 n5 c5,.slice Q5 m5 d5] 30)) p):=fun p hp=>(hck p hp).keep (zaB w5 _)
   have HO5:Hid (w4.heap.size<=w5.heap.size):=hb.size
   have HY5:Hid (y<w4.heap.size):=hy4
   clear hb he1 he2 hml hok hck hy4 HV4 HW4 HX4 HR4 HZ4 HY4 HB4 hy
   have HWS:=hid (want_sane (xs:=ctl.fin) HS.out)
   rw[HCS.out,List.getLast?_concat] at HWS
   cases hwv:wantV (some ctl) s.vals ctl.fin.reverse with
   | none=>
    rw[hwv] at HQ0 HWS
    have e5:(wantS s ctl.fin).2=5:=by rw[HWS.out]
    rw[e5]
    clear hwv e5 HWS
    obtain⟨o0,o1⟩:=zaH HO6.out
    obtain⟨y0,y1,y2,y3⟩:=cells4 HY6.out
    obtain⟨z0,z1,z2,z3⟩:=cells4 HZ6.out
    have zp0:=(zaA HZ6.out 0).2
    have zp1:=(zaA HZ6.out 1).2
    have zp2:=(zaA HZ6.out 2).2
    have zp3:=(zaA HZ6.out 3).2
    have hzl:z<(w5.alloc (.cells #[.slice P5 n5 c5,.slice Q5 m5 d5] 30)).heap.size:=lt_of_heap HZ6.out
    obtain⟨q0,q1⟩:=zaH HR6.out
    have p0:=(zaA HR6.out 0).2
    have p1:=(zaA HR6.out 1).2
    have hrl:r<(w5.alloc (.cells #[.slice P5 n5 c5,.slice Q5 m5 d5] 30)).heap.size:=lt_of_heap HR6.out
    have HQ:Hid (R=(none_,zeroC,5)):=HQ0.out
    go_wp2_with fail
    obtain⟨f0,f1⟩:=zaH (store2 HR6.out (.slice none 0 0) (.slice none 0 0))
    obtain⟨g0,g1,g2,g3⟩:=cells4 (store4 (chg_two (a:=.slice none 0 0) (b:=.slice none 0 0) HZ6.out HR6.out hzr) (.int .i64 0) (.slice none 0 0) (.int .i64 0) (.bool false))
    have hk:=blk2 (chg4 (((w5.alloc (.cells #[.slice P5 n5 c5,.slice Q5 m5 d5] 30)).setCell ⟨r,0,none⟩ (.slice none 0 0)).setCell ⟨r,1,none⟩ (.slice none 0 0)) z (.int .i64 0) (.slice none 0 0) (.int .i64 0) (.bool false)) (store2 HR6.out (.slice none 0 0) (.slice none 0 0)) hrz
    obtain⟨f0,f1⟩:=zaH hk
    have HF:=hid (below_set4 ((HB6.out.setCell (p:=⟨r,0,none⟩) HBR.out (.slice none 0 0)).setCell (p:=⟨r,1,none⟩) HBR.out (.slice none 0 0)) HBZ.out (.int .i64 0) (.slice none 0 0) (.int .i64 0) (.bool false))
    generalize ((((((w5.alloc (.cells #[.slice P5 n5 c5,.slice Q5 m5 d5] 30)).setCell ⟨r,0,none⟩ (.slice none 0 0)).setCell ⟨r,1,none⟩ (.slice none 0 0)).setCell ⟨z,0,none⟩ (.int .i64 0)).setCell ⟨z,1,none⟩ (.slice none 0 0)).setCell ⟨z,2,none⟩ (.int .i64 0)).setCell ⟨z,3,none⟩ (.bool false)=wf at *
    clear q0 q1 p0 p1 z0 z1 z2 z3 zp0 zp1 zp2 zp3 o0 o1 y0 y1 y2 y3
    rw[HQ.out]
    exact bodyPost_ret (v:=.tuple #[.agg #[.slice none 0 0,.slice none 0 0],.agg #[.int .i64 0,.slice none 0 0,.int .i64 0,.bool false],.int .i64 5]) (by simp[results,Tryz.results53,go_sem,f0,f1,g0,g1,g2,g3]) rfl (RClose.zero HF.out)
   | some vs=>
    rw[hwv] at HQ0 HWS
    have e5:(wantS s ctl.fin).2=0:=by rw[HWS.out]
    have e6:(wantS s ctl.fin).1=⟨vs,q ++ [ctl]⟩:=by rw[HWS.out,<- HCS.out]
    rw[e6] at HE1 HML HOK
    rw[e5]
    obtain⟨o0,o1⟩:=zaH HO6.out
    obtain⟨y0,y1,y2,y3⟩:=cells4 HY6.out
    obtain⟨z0,z1,z2,z3⟩:=cells4 HZ6.out
    have zp0:=(zaA HZ6.out 0).2
    have zp1:=(zaA HZ6.out 1).2
    have zp2:=(zaA HZ6.out 2).2
    have zp3:=(zaA HZ6.out 3).2
    have hzl:z<(w5.alloc (.cells #[.slice P5 n5 c5,.slice Q5 m5 d5] 30)).heap.size:=lt_of_heap HZ6.out
    obtain⟨q0,q1⟩:=zaH HR6.out
    have p0:=(zaA HR6.out 0).2
    have p1:=(zaA HR6.out 1).2
    have hrl:r<(w5.alloc (.cells #[.slice P5 n5 c5,.slice Q5 m5 d5] 30)).heap.size:=lt_of_heap HR6.out
    have hn5:vs.length=n5:=by
     obtain⟨A,c',e⟩:=HE1.out.form
     injection e with _ e1 _
     exact e1.symm
    have hm5:m5=k+1:=by
     obtain⟨A,c',e⟩:=HE2.out.form
     injection e with _ e1 _
     rw[e1,<- List.length_map (f:=(·.1)),HML.out,List.length_append,HK.out]
     rfl
    subst hm5
    by_cases hlt:(n5:Int)=ht
    ·have HQ:Hid (R=(⟨vs,q⟩,ctl,0)):=by
      show _=_
      rw[HQ0.out]
      show (if (vs.length:Int)≠ctl.ht then (none_,zeroC,5) else (⟨vs,q⟩,ctl,0))=_
      rw[if_neg (by rw[hn5,HHT.out];simpa using hlt)]
     have t6:((n5:Int) != ht)=false:=by simpa using hlt
     have hcap:k<=d5/\l.length=k+1:=by
      obtain⟨A,c',e,e2,_⟩:=(HE2.out.row HCK.out).form
      injection e with _ e1 e3
      subst e3
      exact⟨by omega,e1.symm⟩
     have HLL:Hid (l.length=k+1):=hcap.2
     have j1:(0:Int)<=(k:Int):=by omega
     have j2:(k:Int)<=(d5:Int):=by have:=hcap.1;omega
     have j2':k<=d5:=hcap.1
     have op1:=(zaA HO6.out 1).2
     have hol:w5.heap.size<(w5.alloc (.cells #[.slice P5 n5 c5,.slice Q5 (k+1) d5] 30)).heap.size:=lt_of_heap HO6.out
     clear hwv e5 e6 HWS hn5 hlt hcap
     go_wp2_with fail
     clear o0 o1 op1 y0 y1 y2 y3 z0 z1 z2 z3 zp0 zp1 zp2 zp3 hzl q0 q1 p0 p1 hrl hol
     have hE:w5.alloc (.cells #[.slice P5 n5 c5,.slice Q5 k d5] 30)=(w5.alloc (.cells #[.slice P5 n5 c5,.slice Q5 (k+1) d5] 30)).setCell ⟨w5.heap.size,1,none⟩ (.slice Q5 k d5):=by go_simp
     rw[hE]
     clear hE
     obtain⟨o,ho⟩:∃o,w5.heap.size=o:=⟨_,rfl⟩
     generalize w5.alloc (.cells #[.slice P5 n5 c5,.slice Q5 (k+1) d5] 30)=w6 at *
     rw[ho] at HO6 HO5
     simp only[ho]
     clear ho
     have hro:r≠o:=by have:=HRl.out;have:=HO5.out;have:=HY5.out;omega
     have hzo:z≠o:=by have:=HZl.out;have:=HO5.out;have:=HY5.out;omega
     have hyo:y≠o:=by have:=HO5.out;have:=HY5.out;omega
     have hor:=Ne.symm hro
     have hry:r≠y:=by have:=HRl.out;omega
     have hzy:z≠y:=by have:=HZl.out;omega
     have hyr:=Ne.symm hry
     have hyz:=Ne.symm hzy
     have HO7:Hid ((w6.setCell ⟨o,1,none⟩ (.slice Q5 k d5)).heap[o]? = some (.cells #[.slice P5 n5 c5,.slice Q5 k d5] 30 (0,0))):=by
      show _=_
      rw[zaE HO6.out]
      rfl
     have HR7:=hid (chgT_low (u:=.slice Q5 k d5) HR6.out (o:=o) (i:=1) hro)
     have HZ7:=hid (chgT_low (u:=.slice Q5 k d5) HZ6.out (o:=o) (i:=1) hzo)
     have HY7:=hid (chgT_low (u:=.slice Q5 k d5) HY6.out (o:=o) (i:=1) hyo)
     have HE71:=hid (HE1.out.other (chgT_set (i:=1) (u:=.slice Q5 k d5) HO6.out) (by decide))
     have HE72:=hid ((HE2.out.take k (by omega)).other (chgT_set (i:=1) (u:=.slice Q5 k d5) HO6.out) (by decide))
     have HC7:Hid (∀p∈l,CtOk (w6.setCell ⟨o,1,none⟩ (.slice Q5 k d5)) p):=fun p hp=>ctok_box (HCK.out p hp) HO6.out
     have HW7:=hid (rowB_box (u:=.slice Q5 k d5) (i:=1) HW6.out HO6.out)
     have HB7:=hid (HB6.out.setCell (p:=⟨o,1,none⟩) (by have:=HB3.out.size;have:=HO5.out;have:=HY5.out;have:=HRl.out;have:=HBR.out;show _<=o;omega) (.slice Q5 k d5))
     generalize w6.setCell ⟨o,1,none⟩ (.slice Q5 k d5)=w7 at *
     clear HO6 HR6 HZ6 HY6 HE1 HE2 HCK HW6 HB6
     obtain⟨o0,o1⟩:=zaH HO7.out
     obtain⟨y0,y1,y2,y3⟩:=cells4 HY7.out
     obtain⟨z0,z1,z2,z3⟩:=cells4 HZ7.out
     have zp0:=(zaA HZ7.out 0).2
     have zp1:=(zaA HZ7.out 1).2
     have zp2:=(zaA HZ7.out 2).2
     have zp3:=(zaA HZ7.out 3).2
     have hzl:z<w7.heap.size:=lt_of_heap HZ7.out
     obtain⟨q0,q1⟩:=zaH HR7.out
     have p0:=(zaA HR7.out 0).2
     have p1:=(zaA HR7.out 1).2
     have hrl:r<w7.heap.size:=lt_of_heap HR7.out
     go_region
     have HR8:=hid (store2 HR7.out (.slice P5 n5 c5) (.slice Q5 k d5))
     have HZ8:=hid (chg_two (a:=.slice P5 n5 c5) (b:=.slice Q5 k d5) HZ7.out HR7.out hzr)
     have HE81:=hid ((HE71.out.other (chgT_set (i:=0) (u:=.slice P5 n5 c5) HR7.out) (by decide)).other (chgT_set (i:=1) (u:=.slice Q5 k d5) (zaE HR7.out _)) (by decide))
     have HE82:=hid ((HE72.out.other (chgT_set (i:=0) (u:=.slice P5 n5 c5) HR7.out) (by decide)).other (chgT_set (i:=1) (u:=.slice Q5 k d5) (zaE HR7.out _)) (by decide))
     have HC8:Hid (∀p∈l,CtOk ((w7.setCell ⟨r,0,none⟩ (.slice P5 n5 c5)).setCell ⟨r,1,none⟩ (.slice Q5 k d5)) p):=fun p hp=>ctok_box (ctok_box (HC7.out p hp) HR7.out) (zaE HR7.out _)
     have HW8:=hid (rowB_box (u:=.slice Q5 k d5) (i:=1) (rowB_box (u:=.slice P5 n5 c5) (i:=0) HW7.out HR7.out) (zaE HR7.out _))
     have HB8:=hid ((HB7.out.setCell (p:=⟨r,0,none⟩) HBR.out (.slice P5 n5 c5)).setCell (p:=⟨r,1,none⟩) HBR.out (.slice Q5 k d5))
     generalize (w7.setCell ⟨r,0,none⟩ (.slice P5 n5 c5)).setCell ⟨r,1,none⟩ (.slice Q5 k d5)=w8 at *
     clear o0 o1 y0 y1 y2 y3 z0 z1 z2 z3 zp0 zp1 zp2 zp3 hzl q0 q1 p0 p1 hrl
     have HCH:=hid (chg4 w8 z (.int .i64 op) (.slice Rf nf cf) (.int .i64 ht) (.bool dd))
     have HN8:=hid (no8_ctl HZ8.out (by intro x;simp) (by intro x;simp) (by intro x;simp) (by intro x;simp))
     have HS8:=hid (size4 w8 z (.int .i64 op) (.slice Rf nf cf) (.int .i64 ht) (.bool dd))
     have HF:=hid (below_set4 HB8.out HBZ.out (.int .i64 op) (.slice Rf nf cf) (.int .i64 ht) (.bool dd))
     obtain⟨g0,g1,g2,g3⟩:=cells4 (store4 HZ8.out (.int .i64 op) (.slice Rf nf cf) (.int .i64 ht) (.bool dd))
     obtain⟨f0,f1⟩:=zaH (blk2 HCH.out HR8.out hrz)
     generalize (((w8.setCell ⟨z,0,none⟩ (.int .i64 op)).setCell ⟨z,1,none⟩ (.slice Rf nf cf)).setCell ⟨z,2,none⟩ (.int .i64 ht)).setCell ⟨z,3,none⟩ (.bool dd)=w9 at *
     have hsz:w8.heap.size<=w9.heap.size:=Nat.le_of_eq HS8.out.symm
     have hk9:∀k',w4.heap.size<=k'->k'<w8.heap.size->w9.heap[k']? = w8.heap[k']?:=fun k' h1 h2=>HCH.out k' h2 (by intro e;have:=Option.some.inj e;have:=HZl.out;have:=HY5.out;omega)
     have HG1:=hid ((HE81.out.stay hk9).keep (zaI _))
     have HG2:=hid ((HE82.out.stay hk9).keep (zaI _))
     have HGC:Hid (∀p∈l.take k,CtOk w9.drew p):=fun p hp=>CtOk.keep ⟨rowB_chg (HC8.out p (List.mem_of_mem_take hp)).1 HN8.out HCH.out hsz,(HC8.out p (List.mem_of_mem_take hp)).2⟩ (zaI _)
     have HGW:=hid ((rowB_chg HW8.out HN8.out HCH.out hsz).keep (zaI _))
     have HFD:=hid (HF.out.drew)
     have f0:w9.drew.cell? ⟨r,0,none⟩=some (.slice P5 n5 c5):=f0
     have f1:w9.drew.cell? ⟨r,1,none⟩=some (.slice Q5 k d5):=f1
     have g0:w9.drew.cell? ⟨z,0,none⟩=some (.int .i64 op):=g0
     have g1:w9.drew.cell? ⟨z,1,none⟩=some (.slice Rf nf cf):=g1
     have g2:w9.drew.cell? ⟨z,2,none⟩=some (.int .i64 ht):=g2
     have g3:w9.drew.cell? ⟨z,3,none⟩=some (.bool dd):=g3
     generalize w9.drew=wf at *
     clear hsz hk9
     go_wp2_with fail
     rw[HQ.out]
     have hlm:(l.take k).map (·.1)=q:=by rw[List.map_take,HML.out,<- HK.out,List.take_left]
     exact bodyPost_ret (v:=.tuple #[.agg #[.slice P5 n5 c5,.slice Q5 k d5],.agg #[.int .i64 op,.slice Rf nf cf,.int .i64 ht,.bool dd],.int .i64 0]) (by simp[results,Tryz.results53,go_sem,f0,f1,g0,g1,g2,g3]) rfl ⟨⟨_,_,_,_,_,_,Rf,nf,cf,by rw[HOP.out,HHT.out,HDD.out],⟨_,_,l.take k,rfl,HG1.out.row HOK.out,HG2.out.row HGC.out,hlm⟩,HGW.out⟩,HFD.out⟩
    ·have t6:((n5:Int) != ht)=true:=by simpa using hlt
     have HQn:Hid (R=(none_,zeroC,5)):=by
      show _=_
      rw[HQ0.out]
      show (if (vs.length:Int)≠ctl.ht then (none_,zeroC,5) else (⟨vs,q⟩,ctl,0))=_
      rw[if_pos (by rw[hn5,HHT.out];exact hlt)]
     clear hwv e5 e6 HWS hn5 hlt HQ0
     have HQ:Hid (R=(none_,zeroC,5)):=HQn.out
     go_wp2_with fail
     obtain⟨f0,f1⟩:=zaH (store2 HR6.out (.slice none 0 0) (.slice none 0 0))
     obtain⟨g0,g1,g2,g3⟩:=cells4 (store4 (chg_two (a:=.slice none 0 0) (b:=.slice none 0 0) HZ6.out HR6.out hzr) (.int .i64 0) (.slice none 0 0) (.int .i64 0) (.bool false))
     have hk:=blk2 (chg4 (((w5.alloc (.cells #[.slice P5 n5 c5,.slice Q5 (k+1) d5] 30)).setCell ⟨r,0,none⟩ (.slice none 0 0)).setCell ⟨r,1,none⟩ (.slice none 0 0)) z (.int .i64 0) (.slice none 0 0) (.int .i64 0) (.bool false)) (store2 HR6.out (.slice none 0 0) (.slice none 0 0)) hrz
     obtain⟨f0,f1⟩:=zaH hk
     have HF:=hid (below_set4 ((HB6.out.setCell (p:=⟨r,0,none⟩) HBR.out (.slice none 0 0)).setCell (p:=⟨r,1,none⟩) HBR.out (.slice none 0 0)) HBZ.out (.int .i64 0) (.slice none 0 0) (.int .i64 0) (.bool false))
     generalize ((((((w5.alloc (.cells #[.slice P5 n5 c5,.slice Q5 (k+1) d5] 30)).setCell ⟨r,0,none⟩ (.slice none 0 0)).setCell ⟨r,1,none⟩ (.slice none 0 0)).setCell ⟨z,0,none⟩ (.int .i64 0)).setCell ⟨z,1,none⟩ (.slice none 0 0)).setCell ⟨z,2,none⟩ (.int .i64 0)).setCell ⟨z,3,none⟩ (.bool false)=wf at *
     clear q0 q1 p0 p1 z0 z1 z2 z3 zp0 zp1 zp2 zp3 o0 o1 y0 y1 y2 y3
     rw[HQ.out]
     exact bodyPost_ret (v:=.tuple #[.agg #[.slice none 0 0,.slice none 0 0],.agg #[.int .i64 0,.slice none 0 0,.int .i64 0,.bool false],.int .i64 5]) (by simp[results,Tryz.results53,go_sem,f0,f1,g0,g1,g2,g3]) rfl (RClose.zero HF.out)
theorem open_notsane {s:Stk}{op:Int}{xs:List Int}(h:sane s=false):openS s op xs=(none_,1):=by unfold openS;rw[if_pos h]
theorem open_no {s:Stk}{op:Int}{xs:List Int}(h:sane s=true)(hm:mayE xs=false):openS s op xs=(none_,1):=by unfold openS;rw[if_neg (by rw[h];decide),if_pos hm]
theorem step_appT {α:Type}(T:El α){ops:Array Oper}{o:Oper}{a:Act}{K:Act->World->Prop}{Q:Exit->Act->World->Prop}{E:Prop}(t:TypeId)(ht:Tryz.prog.underlying t=some (.slice T.e))(w:World)(hgd:o.guard=none)(s x:Operand)
  (ho:o.op= .call { callee:=.builtin .append,args:=#[s,x],argTypes:=#[t,t] }) (B:Nat) (v x':Value) (done l:List α) (m:Nat) (hs:a.eval s=v) (hx:a.eval x=x') (hown:EO T w B v done)
  (hl:Row T w x' l) (hm:done.length+l.length=m) (hlen:m<=1000000) (hby:T.bytes<=100) (hB:B<=w.heap.size)
  (h:∀P c w',EO T w' B (.slice P m c) (done ++ l)->Below B w w'->ChgT T.e w w'->K (a.put o.dst (.slice P m c)) w'):if Region.wanted o (yielded ops a.tmps)=true then Oper.wp Tryz.prog o a w K Q else E:=by
 have hw:Region.wanted o (yielded ops a.tmps)=true:=by simp[Region.wanted,hgd]
 rw[if_pos hw]
 obtain⟨v',w',hr,h1,h2,h3⟩:=run_appT T t ht w o.type B v x' done l hown hl (by omega) hby hB
 obtain⟨P,c,hv⟩:=h1.form
 rw[List.length_append,hm] at hv
 subst hv
 unfold Oper.wp execOp
 simp only[ho,resolve,invoke,builtin,Sem.run_bind,Sem.run_pure,Result.andThen_ok,List.map_toArray,List.map_cons,List.map_nil,hs,hx,hr]
 exact h P c w' h1 h2 h3
theorem row_newD {w:World}{op ht:Int}{d:Bool}{f:List Int}{u:Value}(h:CtOk w (⟨op,f,ht,d⟩,u)):Row elD (w.alloc (.cells #[.int .i64 op,u,.int .i64 ht,.bool d] 76)) (.slice (some ⟨w.heap.size,0,none⟩) 1 1) [(⟨op,f,ht,d⟩,u)]:=by
 refine⟨⟨_,1,rfl,Nat.le_refl _,by omega,fun _=>⟨w.heap.size,0,rfl,by rw[zaD];omega,fun j p hj=>?_⟩⟩,fun p hp=>?_⟩
 ·rcases j with _ | j
  ·obtain rfl:=Option.some.inj hj
   rw[Nat.zero_mul,Nat.add_zero]
   exact newG' elD w (⟨op,f,ht,d⟩,u) #[.int .i64 op,u,.int .i64 ht,.bool d] _ rfl rfl
  ·simp at hj
 ·obtain rfl:=List.mem_singleton.1 hp
  exact h.keep (zaB w _)
theorem ropen_any {v x:Value}{s:Stk}{op:Int}{xs:List Int}{w:World}(h:StIs elD w v s)(hx:Row elB w x xs)(ho:w64 op)(h1:s.vals.length<=400000)(h2:s.cs.length<=400000)(h3:xs.length<=400000):
  Calls Tryz.prog 50 #[v,.int .i64 op,x] w (ROp (openS s op xs) w):=by
 obtain⟨Px,cx,rfl,hxc,_⟩:=hx.form
 obtain⟨nx,hnx⟩:∃n,xs.length=n:=⟨_,rfl⟩
 rw[hnx] at hx hxc h3 ⊢
 have HNX:=hid hnx
 have HX:=hid hx
 have HOPW:=hid ho
 have HL3:=hid h3
 clear hnx hx ho h3
 obtain⟨P,np,cp,Q,m,d,rfl⟩:=StIs.form (T:=elD) h
 obtain⟨l0,hrb0,hrc0,hml0,hnv,hnl0,hnc⟩:=h.rows
 have HB2:=hid (below2 w (.cells #[.slice P np cp,.slice Q m d] 30) (.cells #[.slice none 0 0,.slice none 0 0] 30))
 have HBX:=hid (blk (zaC w (.cells #[.slice P np cp,.slice Q m d] 30)) (zaB (w.alloc (.cells #[.slice P np cp,.slice Q m d] 30)) (.cells #[.slice none 0 0,.slice none 0 0] 30)))
 have HR:=hid (zaC (w.alloc (.cells #[.slice P np cp,.slice Q m d] 30)) (.cells #[.slice none 0 0,.slice none 0 0] 30))
 have HV:=hid (h.keep HB2.out)
 simp only[zaD] at HR
 have HL1:=hid h1
 have HL2:=hid h2
 have HNC:=hid hnc
 have HNV:=hid hnv
 have HRC0:=hid (hrc0.keep HB2.out)
 have HRB0:=hid (hrb0.keep HB2.out)
 have HML0:=hid hml0
 obtain⟨R,hR⟩:∃R,openS s op xs=R:=⟨_,rfl⟩
 have HRR:=hid hR
 rw[hR]
 have hbig:m<=400000:=by omega
 have hbigv:np<=400000:=by omega
 clear h h1 h2 hR hrb0 hrc0 hml0 hnv hnl0 hnc
 go_enter Tryz.func50,Tryz.ntmps50
 go_wp2_with fail
 generalize ((w.alloc (.cells #[.slice P np cp,.slice Q m d] 30)).alloc (.cells #[.slice none 0 0,.slice none 0 0] 30))=w2 at *
 obtain⟨b,hb0⟩:∃b,w.heap.size=b:=⟨_,rfl⟩
 obtain⟨r,hr0⟩:∃r,b+1=r:=⟨_,rfl⟩
 have HBR:Hid (w.heap.size<=r):=hid (by omega)
 have HBN:Hid (b≠r):=hid (by omega)
 have HBB:Hid (w.heap.size<=b):=hid (by omega)
 rw[hb0] at HBX HR
 rw[hr0] at HR
 simp only[hb0]
 simp only[hr0]
 clear hb0 hr0
 refine(rsane_any HV.out).mono ?_
 rintro e w3 ⟨rfl,hb⟩
 have HB3:=hid (HB2.out.trans (hb.mono HB2.out.size))
 have HV3:=hid (HV.out.keep hb)
 have HRC3:=hid (HRC0.out.keep hb)
 have HRB3:=hid (HRB0.out.keep hb)
 have HBX3:=hid (blk HBX.out hb)
 have HR3:=hid (blk HR.out hb)
 clear hb HV HBX HR HB2 HRC0 HRB0
 obtain⟨q0,q1⟩:=zaH HR3.out
 have p0:=(zaA HR3.out 0).2
 have p1:=(zaA HR3.out 1).2
 have hrl:r<w3.heap.size:=lt_of_heap HR3.out
 have HX3:=hid (HX.out.keep HB3.out)
 cases hs:sane s with
 | false=>
  have HQ:Hid (R=(none_,1)):=HRR.out.symm.trans (open_notsane hs)
  go_wp2_with fail
  obtain⟨f0,f1⟩:=zaH (store2 HR3.out (.slice none 0 0) (.slice none 0 0))
  have HF:=hid ((HB3.out.setCell (p:=⟨r,0,none⟩) HBR.out (.slice none 0 0)).setCell (p:=⟨r,1,none⟩) HBR.out (.slice none 0 0))
  generalize (w3.setCell ⟨r,0,none⟩ (.slice none 0 0)).setCell ⟨r,1,none⟩ (.slice none 0 0)=wf at *
  clear q0 q1 p0 p1
  rw[HQ.out]
  exact bodyPost_ret (v:=.tuple #[.agg #[.slice none 0 0,.slice none 0 0],.int .i64 1]) (by simp[results,Tryz.results50,go_sem,f0,f1]) rfl ⟨⟨_,_,_,_,_,_,rfl,StIs.none_ elD wf⟩,HF.out⟩
 | true=>
  have HS:=hid hs
  clear hs
  go_wp2_with fail
  refine(rend_any HX3.out).mono ?_
  rintro e w4 ⟨rfl,hw4⟩
  obtain rfl:w3=w4:=hw4.symm
  cases hm:mayE xs with
  | false=>
   have HQ:Hid (R=(none_,1)):=HRR.out.symm.trans (open_no HS.out hm)
   go_wp2_with fail
   obtain⟨f0,f1⟩:=zaH (store2 HR3.out (.slice none 0 0) (.slice none 0 0))
   have HF:=hid ((HB3.out.setCell (p:=⟨r,0,none⟩) HBR.out (.slice none 0 0)).setCell (p:=⟨r,1,none⟩) HBR.out (.slice none 0 0))
   generalize (w3.setCell ⟨r,0,none⟩ (.slice none 0 0)).setCell ⟨r,1,none⟩ (.slice none 0 0)=wf at *
   clear q0 q1 p0 p1
   rw[HQ.out]
   exact bodyPost_ret (v:=.tuple #[.agg #[.slice none 0 0,.slice none 0 0],.int .i64 1]) (by simp[results,Tryz.results50,go_sem,f0,f1]) rfl ⟨⟨_,_,_,_,_,_,rfl,StIs.none_ elD wf⟩,HF.out⟩
  | true=>
   have HQ:Hid (R=(⟨s.vals,s.cs ++ [⟨op,xs,s.vals.length,false⟩]⟩,0)):=HRR.out.symm.trans (open_ok HS.out hm)
   clear hm q0 q1 p0 p1 hrl
   obtain⟨x0,x1⟩:=zaH HBX3.out
   have hbl:b<w3.heap.size:=lt_of_heap HBX3.out
   go_wp2_with fail
   clear x0 x1 hbl
   refine(copied_eo HV3.out HL1.out HL2.out).mono ?_
   rintro e w5 ⟨⟨P5,n5,c5,Q5,m5,d5,l,rfl,he1,he2,hml,hok,hck⟩,hb⟩
   have HBn:=hid (hb.trans ((zaB w5 (.cells #[.slice P5 n5 c5,.slice Q5 m5 d5] 30)).mono hb.size))
   have HB6:=hid (HB3.out.trans (HBn.out.mono HB3.out.size))
   have HE1:=hid (he1.keep (zaB w5 (.cells #[.slice P5 n5 c5,.slice Q5 m5 d5] 30)))
   have HE2:=hid (he2.keep (zaB w5 (.cells #[.slice P5 n5 c5,.slice Q5 m5 d5] 30)))
   have HO6:=hid (zaC w5 (.cells #[.slice P5 n5 c5,.slice Q5 m5 d5] 30))
   have HR6:=hid (blk HR3.out HBn.out)
   have HBX6:=hid (blk HBX3.out HBn.out)
   have HX6:=hid (HX3.out.keep HBn.out)
   have HML:=hid hml
   have HOK:=hid hok
   have HCK:=hid hck
   have HO5:Hid (w3.heap.size<=w5.heap.size):=hb.size
   have HR4l:Hid (r<w3.heap.size):=lt_of_heap HR3.out
   have HBl:Hid (b<w3.heap.size):=lt_of_heap HBX3.out
   have hm5:l.length=m5:=by
    obtain⟨A,c',e⟩:=he2.form
    injection e with _ e1 _
    exact e1.symm
   have hml0:l.length=s.cs.length:=by rw[<- hml,List.length_map]
   have HM5:=hid hm5
   have HM5':Hid (m5<=400000):=hid (by have:=HL2.out;omega)
   clear hb he1 he2 hml hok hck hm5 hml0
   go_wp2_with fail
   generalize w5.alloc (.cells #[.slice P5 n5 c5,.slice Q5 m5 d5] 30)=w6 at *
   obtain⟨o,ho⟩:∃o,w5.heap.size=o:=⟨_,rfl⟩
   rw[ho] at HO6 HO5
   simp only[ho]
   clear ho
   obtain⟨o0,o1⟩:=zaH HO6.out
   have op1:=(zaA HO6.out 1).2
   have hol:o<w6.heap.size:=lt_of_heap HO6.out
   obtain⟨x0,x1⟩:=zaH HBX6.out
   have hbl:b<w6.heap.size:=lt_of_heap HBX6.out
   obtain⟨nv,hnv⟩:∃n,s.vals.length=n:=⟨_,rfl⟩
   have HW1:=hid (((zaB w6 (.cells #[] 5)).drew))
   have HX7:=hid (HX6.out.keep HW1.out)
   have HNW:Hid (w64 (np:Int)):=⟨by omega,by omega⟩
   have HMM:Hid (m5+1<=1000000):=hid (by have:=HM5'.out;omega)
   have HL3':Hid (nx<=1000000):=hid (by have:=HL3.out;omega)
   have HOW:Hid (o<w6.heap.size):=hol
   have HBW:Hid (b<w6.heap.size):=hbl
   go_region_law (first
    | (refine step_appT elB 25 Tryz.underlying25 (w6.alloc (.cells #[] 5)).drew rfl (.tmp 23) (.tmp 24) rfl w6.heap.size (.slice (some ⟨w6.heap.size,0,none⟩) 0 0) (.slice Px nx cx) [] xs nx (by rfl) (by rfl) (.inl ⟨_,rfl,rfl⟩) HX7.out (by rw[List.length_nil,Nat.zero_add];exact HNX.out) HL3'.out (by decide) HW1.out.size ?_;intro P7 c7 w7 he7 hb7 hc7;have HE7:=hid he7;have HB7:=hid (HW1.out.trans hb7);have hol7:o<w7.heap.size:=Nat.lt_of_lt_of_le HOW.out HB7.out.size;have hbl7:b<w7.heap.size:=Nat.lt_of_lt_of_le HBW.out HB7.out.size;obtain ⟨y0,y1⟩:=zaH (blk HO6.out HB7.out);obtain ⟨v0,v1⟩:=zaH (blk HBX6.out HB7.out);clear he7 hb7 hc7)
    | (refine step_appT elD 28 Tryz.underlying28 (w7.alloc (.cells #[.int .i64 op,.slice P7 nx c7,.int .i64 (np:Int),.bool false] 76)) rfl (.tmp 21) (.tmp 30) rfl w3.heap.size (.slice Q5 m5 d5) (.slice (some ⟨w7.heap.size,0,none⟩) 1 1) l [(⟨op,xs,(np:Int),false⟩,.slice P7 nx c7)] (m5+1) (by rfl) (by rfl) (HE2.out.keep (HB7.out.trans ((zaB w7 _).mono HB7.out.size))) (row_newD ⟨by have:=HE7.out.row (fun p hp=>HX7.out.2 p (by simpa using hp));simpa using this,HOPW.out,HNW.out⟩) (by rw[HM5.out];rfl) HMM.out (by decide) (Nat.le_trans HO5.out (Nat.le_trans (Nat.le_of_lt HOW.out) (Nat.le_trans HB7.out.size (zaB w7 _).size))) ?_;intro P8 c8 w8 he8 hb8 hc8;have HE8:=hid he8;have HB8:=hid hb8;have HC8:=hid hc8;have HO8:=hid (hc8 o _ _ (blk (blk HO6.out HB7.out) (zaB w7 (.cells #[.int .i64 op,.slice P7 nx c7,.int .i64 (np:Int),.bool false] 76))) (by decide));obtain ⟨u0,u1⟩:=zaH HO8.out;have u2:=(zaA HO8.out 1).2;clear he8 hb8 hc8))
   all_goals (
    have HW7:=hid (zaB w7 (.cells #[.int .i64 op,.slice P7 nx c7,.int .i64 (np:Int),.bool false] 76))
    have HR8:=hid (HC8.out r _ _ (blk (blk HR6.out HB7.out) HW7.out) (by decide))
    have hro:r≠o:=by have:=HR4l.out;have:=HO5.out;omega
    have hor:o≠r:=Ne.symm hro
    have HO9:Hid ((w8.setCell ⟨o,1,none⟩ (.slice P8 (m5+1) c8)).heap[o]? = some (.cells #[.slice P5 n5 c5,.slice P8 (m5+1) c8] 30 (0,0))):=by
     show _=_
     rw[zaE HO8.out]
     rfl
    have HR9:=hid (chgT_low (u:=.slice P8 (m5+1) c8) HR8.out (o:=o) (i:=1) hro)
    have hB0:Below w3.heap.size w3 w8:=(HBn.out.trans ((HB7.out.trans (HW7.out.mono HB7.out.size)).mono HBn.out.size)).trans HB8.out
    have HE91:=hid ((((HE1.out.keep HB7.out).keep HW7.out).other HC8.out (by decide)).other (chgT_set (i:=1) (u:=.slice P8 (m5+1) c8) HO8.out) (by decide))
    have HE92:=hid (HE8.out.other (chgT_set (i:=1) (u:=.slice P8 (m5+1) c8) HO8.out) (by decide))
    have HE93:=hid (((HE7.out.keep HW7.out).other HC8.out (by decide)).other (chgT_set (i:=1) (u:=.slice P8 (m5+1) c8) HO8.out) (by decide))
    have HC9:Hid (∀p∈l,CtOk (w8.setCell ⟨o,1,none⟩ (.slice P8 (m5+1) c8)) p):=fun p hp=>ctok_box ((HCK.out p hp).keep hB0) HO8.out
    have HB9:=hid (((HB3.out.trans (hB0.mono HB3.out.size)).setCell (p:=⟨o,1,none⟩) (by have:=HB3.out.size;have:=HO5.out;show _<=o;omega) (.slice P8 (m5+1) c8)))
    clear hB0 u0 u1 u2 o0 o1 op1 hol x0 x1 hbl y0 y1 v0 v1 hol7 hbl7
    generalize w8.setCell ⟨o,1,none⟩ (.slice P8 (m5+1) c8)=w9 at *
    obtain⟨o0,o1⟩:=zaH HO9.out
    obtain⟨q0,q1⟩:=zaH HR9.out
    have p0:=(zaA HR9.out 0).2
    have p1:=(zaA HR9.out 1).2
    have hrl:r<w9.heap.size:=lt_of_heap HR9.out
    go_wp2_with fail
    obtain⟨f0,f1⟩:=zaH (store2 HR9.out (.slice P5 n5 c5) (.slice P8 (m5+1) c8))
    have HF:=hid ((HB9.out.setCell (p:=⟨r,0,none⟩) HBR.out (.slice P5 n5 c5)).setCell (p:=⟨r,1,none⟩) HBR.out (.slice P8 (m5+1) c8))
    have HG1:=hid ((HE91.out.other (chgT_set (i:=0) (u:=.slice P5 n5 c5) HR9.out) (by decide)).other (chgT_set (i:=1) (u:=.slice P8 (m5+1) c8) (zaE HR9.out _)) (by decide))
    have HG2:=hid ((HE92.out.other (chgT_set (i:=0) (u:=.slice P5 n5 c5) HR9.out) (by decide)).other (chgT_set (i:=1) (u:=.slice P8 (m5+1) c8) (zaE HR9.out _)) (by decide))
    have HG3:=hid ((HE93.out.other (chgT_set (i:=0) (u:=.slice P5 n5 c5) HR9.out) (by decide)).other (chgT_set (i:=1) (u:=.slice P8 (m5+1) c8) (zaE HR9.out _)) (by decide))
    have HGC:Hid (∀p∈l,CtOk ((w9.setCell ⟨r,0,none⟩ (.slice P5 n5 c5)).setCell ⟨r,1,none⟩ (.slice P8 (m5+1) c8)) p):=fun p hp=>ctok_box (ctok_box (HC9.out p hp) HR9.out) (zaE HR9.out _)
    generalize (w9.setCell ⟨r,0,none⟩ (.slice P5 n5 c5)).setCell ⟨r,1,none⟩ (.slice P8 (m5+1) c8)=wf at *
    clear q0 q1 p0 p1 o0 o1
    rw[HQ.out]
    have hrowx:Row elB wf (.slice P7 nx c7) xs:=by have:=HG3.out.row (fun p hp=>HX7.out.2 p (by simpa using hp));simpa using this
    exact bodyPost_ret (v:=.tuple #[.agg #[.slice P5 n5 c5,.slice P8 (m5+1) c8],.int .i64 0]) (by simp[results,Tryz.results50,go_sem,f0,f1]) rfl ⟨⟨_,_,_,_,_,_,rfl,_,_,l ++ [(⟨op,xs,(np:Int),false⟩,.slice P7 nx c7)],rfl,HG1.out.row HOK.out,HG2.out.row (fun p hp=>by
     rcases List.mem_append.1 hp with hp | hp
     ·exact HGC.out p hp
     ·obtain rfl:=List.mem_singleton.1 hp
      exact⟨hrowx,HOPW.out,HNW.out⟩),by rw[List.map_append,HML.out,HNV.out];rfl⟩,HF.out⟩)
end Go.Proofs.YtlappkflnlbfcaaGreatDoor.Stk
end
