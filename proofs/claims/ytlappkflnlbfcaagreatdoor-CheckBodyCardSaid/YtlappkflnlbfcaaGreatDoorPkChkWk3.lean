import Derived.Test.YtlappkflnlbfcaaGreatDoorPkChkWk
import Derived.Test.YtlappkflnlbfcaaGreatDoorPkStkRLabel
import Derived.Test.YtlappkflnlbfcaaGreatDoorPkStkRKill
import Derived.Test.YtlappkflnlbfcaaGreatDoorPkStkRWant
import Derived.Test.YtlappkflnlbfcaaGreatDoorPkStkPlain
import Derived.Test.YtlappkflnlbfcaaGreatDoorPkStkFrame
import Derived.Test.YtlappkflnlbfcaaGreatDoorPkChkM
import Derived.Test.YtlappkflnlbfcaaGreatDoorPkChkInd
import Derived.Test.YtlappkflnlbfcaaGreatDoorPkInsPSame
namespace Go.Proofs.YtlappkflnlbfcaaGreatDoor.Chk
open Lib renaming hid → jq
open Go.RowKit Row9 Stk
set_option maxRecDepth 100000
set_option maxHeartbeats 2000000
set_option linter.unusedVariables false
theorem put_ofP {x:Rs}{s:Stk}{f:Stk->Stk×Int}(h:∀t,x= .ok t->t=s):putR (f s) x=x.bind fun t=>ofP (f t):=by
 cases x with
 | ok t=>rw[h t rfl];rfl
 | er e=>rfl
theorem sane_act {s:Stk}{a:Act9}{r:Stk×Int}(hr:r=Stk.act s a)(hs:sane s=true)(h0:r.2=0):sane r.1=true:=by
 subst hr
 exact act_sane s a hs h0
theorem bd_of {r:Stk×Int}{z:Nat}(h:Bd (ofP r) z)(h0:r.2=0):r.1.vals.length<=z/\r.1.cs.length<=z:=h r.1 (by unfold ofP;rw[if_pos h0])
theorem bd_ok {s:Stk}{z:Nat}(h4:s.vals.length<=z)(h5:s.cs.length<=z):Bd (.ok s) z:=fun t ht=>by
 injection ht with ht
 subst ht
 exact⟨h4,h5⟩
theorem pop_mem (s:Stk):(popS s).2.1=0\/(popS s).2.1∈s.vals:=by
 unfold popS
 split
 ·exact .inl rfl
 ·unfold popV
  split
  ·exact .inl rfl
  ·rename_i vs v hp
   split at hp
   ·cases hp
   ·split at hp
    ·rename_i hlt
     simp only[Option.some.injEq,Prod.mk.injEq] at hp
     obtain⟨_,rfl⟩:=hp
     simp only
     rcases List.eq_nil_or_concat s.vals with hv | ⟨q,y,hv⟩
     ·left;rw[hv];rfl
     ·right;rw[hv,List.concat_eq_append];simp
    ·split at hp
     ·simp only[Option.some.injEq,Prod.mk.injEq] at hp
      obtain⟨_,rfl⟩:=hp
      exact .inl rfl
     ·cases hp
theorem pop_rng {w:World}{v:Value}{s:Stk}(h:StIs elD w v s):0<=(popS s).2.1/\(popS s).2.1<256:=by
 obtain⟨a,c,l,_,h1,_,_⟩:=h
 rcases pop_mem s with e | e
 ·rw[e];omega
 ·exact h1.2 _ e
theorem sane_fins {s:Stk}(h:sane s=true):∀c∈s.cs,c.fin.length<=1:=by
 obtain⟨z,h1,_⟩:=(sane_iff s).1 h
 intro c hc
 obtain⟨a,b,hab⟩:=List.append_of_mem hc
 rw[hab,sgo_append] at h1
 cases hq:sgo 0 a with
 | none=>rw[hq] at h1;cases h1
 | some z'=>
  rw[hq] at h1
  simp only[sgo] at h1
  split at h1
  ·rename_i hc
   rw[Bool.and_eq_true] at hc
   exact mayE_len hc.1
  ·cases h1
theorem must_wk {w:World}{k:Nat}{x:Rs}{z:Nat}{b:Bool}{e:Int}(h:Cw w k x z)(he:e≠0\/b=true):Calls Tryz.prog 69 #[.pointer (some ⟨k,0,none⟩),.bool b,.int .i64 e] w (CwEnds w k (needR b e x) z (.tuple #[])):=by
 obtain⟨P,n,c,Q,m,d,s,h1,h2,h3,h4,h5,h6⟩:=h.ck
 obtain⟨c0,c1,c2,p0,p1,p2⟩:=cells3 h1
 have hkl:k<w.heap.size:=h.lt
 have H:=jq h
 have HE:=jq he
 clear h h1 h2 h3 h4 h5 h6 he
 cases b with
 | true=>
  have HR:Hid (needR true e x=x):=by show _=_;cases x <;> rfl
  rw[HR.out]
  go_enter Tryz.func69,Tryz.ntmps69
  go_wp2_with fail
  all_goals first
   | exact absurd (by assumption) (undef_ne _)
   | exact bodyPost_end (v:=.tuple #[]) (by simp[results,Tryz.results69,go_sem]) rfl ⟨rfl,H.out,But.refl _ _⟩
 | false=>
  have hez:e≠0:=by rcases HE.out with he | he;exact he;cases he
  cases x with
  | er f=>
   have t1:(f == 0)=false:=by simpa using H.out.ne f rfl
   simp only[Rs.code] at c2
   go_enter Tryz.func69,Tryz.ntmps69
   go_wp2_with fail
   exact bodyPost_end (v:=.tuple #[]) (by simp[results,Tryz.results69,go_sem]) rfl ⟨rfl,H.out,But.refl _ _⟩
  | ok t=>
   simp only[Rs.code] at c2
   go_enter Tryz.func69,Tryz.ntmps69
   go_wp2_with fail
   obtain⟨hc,hbt⟩:=Cw.fault H.out hez
   exact bodyPost_end (v:=.tuple #[]) (by simp[results,Tryz.results69,go_sem]) rfl ⟨rfl,hc,hbt⟩
theorem want_wk {w:World}{k:Nat}{x:Rs}{z:Nat}{l:List Int}{lv:Value}(h:Cw w k x z)(hz:z<=390000)(hl:Row elB w lv l)(hn:l.length<=400000):Calls Tryz.prog 41 #[.pointer (some ⟨k,0,none⟩),lv] w (CwEnds w k (wantR l x) (z) (.tuple #[])):=by
 obtain⟨P,n,c,Q,m,d,s,h1,h2,h3,h4,h5,h6⟩:=h.ck
 have HK:=jq (rwant_any h2 hl (by omega) (by omega) hn)
 have HSN:Hid ((wantS s l).2=0->sane (wantS s l).1=true/\(wantS s l).1.vals.length<=z/\(wantS s l).1.cs.length<=z):=jq fun h0=>⟨sane_act (a:=⟨3,0,l⟩) (act_want (s:=s) (a:=⟨3,0,l⟩) (.inl rfl)).symm h3 h0,bd_of (Bd.want (bd_ok h4 h5)) h0⟩
 have H:=jq h
 have HQ:=jq h6
 have HPR:=jq (pop_rng h2)
 obtain⟨c0,c1,c2,p0,p1,p2⟩:=cells3 h1
 have hkl:k<w.heap.size:=h.lt
 clear h h1 h2 h3 h4 h5 h6 hz hl hn
 go_enter Tryz.func41,Tryz.ntmps41
 go_wp2_with fail
 clear c0 c1 c2 p0 p1 p2 hkl
 refine HK.out.mono ?_
 rintro e w1 ⟨⟨P5,n5,c5,Q5,m5,d5,rfl,hst⟩,hb⟩
 have HBT:Hid (But k w w1):=But.of_below hb
 have HW:=jq ((H.out.keep hb).mono (show z<=z by omega))
 have HST:=jq hst
 have HBN:=jq (zaB w1 (.cells #[.slice P5 n5 c5,.slice Q5 m5 d5] 30))
 clear hb hst HK H
 go_wp2_with fail
 refine(put_wk (r:=(wantS s l)) (HW.out.keep HBN.out) (HST.out.keep HBN.out) HSN.out).mono ?_
 rintro e w2 ⟨rfl,hc,hbt⟩
 have HC:=jq hc
 have HBT:=jq ((HBT.out.trans (But.of_below HBN.out)).trans hbt)
 clear hc hbt
 go_wp2_with fail
 have hR:putR (wantS s l) x=wantR l x:=put_ofP (f:=fun s=>wantS s l) HQ.out
 rw[hR] at HC
 exact bodyPost_end (v:=.tuple #[]) (by simp[results,Tryz.results41,go_sem]) rfl ⟨rfl,HC.out,HBT.out⟩
theorem push_wk {w:World}{k:Nat}{x:Rs}{z:Nat}{l:List Int}{lv:Value}{y:Nat}(h:Cw w k x z)(hz:z<=390000)(hl:Row elB w lv l)(hy:l.length<=y)(hn:y<=400000):Calls Tryz.prog 39 #[.pointer (some ⟨k,0,none⟩),lv] w (CwEnds w k (pushR l x) (z+y) (.tuple #[])):=by
 obtain⟨P,n,c,Q,m,d,s,h1,h2,h3,h4,h5,h6⟩:=h.ck
 have HK:=jq (rpush_any h2 hl (by omega) (by omega) (by omega))
 have HSN:Hid ((pushS s l).2=0->sane (pushS s l).1=true/\(pushS s l).1.vals.length<=z+y/\(pushS s l).1.cs.length<=z+y):=jq fun h0=>⟨sane_act (a:=⟨0,0,l⟩) (act_push (s:=s) (a:=⟨0,0,l⟩) (.inl rfl)).symm h3 h0,bd_of (Bd.push (bd_ok h4 h5) hy) h0⟩
 have H:=jq h
 have HQ:=jq h6
 have HPR:=jq (pop_rng h2)
 obtain⟨c0,c1,c2,p0,p1,p2⟩:=cells3 h1
 have hkl:k<w.heap.size:=h.lt
 clear h h1 h2 h3 h4 h5 h6 hz hl hn hy
 go_enter Tryz.func39,Tryz.ntmps39
 go_wp2_with fail
 clear c0 c1 c2 p0 p1 p2 hkl
 refine HK.out.mono ?_
 rintro e w1 ⟨⟨P5,n5,c5,Q5,m5,d5,rfl,hst⟩,hb⟩
 have HBT:Hid (But k w w1):=But.of_below hb
 have HW:=jq ((H.out.keep hb).mono (show z<=z+y by omega))
 have HST:=jq hst
 have HBN:=jq (zaB w1 (.cells #[.slice P5 n5 c5,.slice Q5 m5 d5] 30))
 clear hb hst HK H
 go_wp2_with fail
 refine(put_wk (r:=(pushS s l)) (HW.out.keep HBN.out) (HST.out.keep HBN.out) HSN.out).mono ?_
 rintro e w2 ⟨rfl,hc,hbt⟩
 have HC:=jq hc
 have HBT:=jq ((HBT.out.trans (But.of_below HBN.out)).trans hbt)
 clear hc hbt
 go_wp2_with fail
 have hR:putR (pushS s l) x=pushR l x:=put_ofP (f:=fun s=>pushS s l) HQ.out
 rw[hR] at HC
 exact bodyPost_end (v:=.tuple #[]) (by simp[results,Tryz.results39,go_sem]) rfl ⟨rfl,HC.out,HBT.out⟩
theorem kill_wk {w:World}{k:Nat}{x:Rs}{z:Nat}(h:Cw w k x z)(hz:z<=390000):Calls Tryz.prog 31 #[.pointer (some ⟨k,0,none⟩)] w (CwEnds w k (killR x) (z) (.tuple #[])):=by
 obtain⟨P,n,c,Q,m,d,s,h1,h2,h3,h4,h5,h6⟩:=h.ck
 have HK:=jq (rkill_any h2 (by omega) (by omega))
 have HSN:Hid ((killS s).2=0->sane (killS s).1=true/\(killS s).1.vals.length<=z/\(killS s).1.cs.length<=z):=jq fun h0=>⟨sane_act (a:=⟨7,0,[]⟩) (act_kill rfl).symm h3 h0,bd_of (Bd.kill (bd_ok h4 h5)) h0⟩
 have H:=jq h
 have HQ:=jq h6
 have HPR:=jq (pop_rng h2)
 obtain⟨c0,c1,c2,p0,p1,p2⟩:=cells3 h1
 have hkl:k<w.heap.size:=h.lt
 clear h h1 h2 h3 h4 h5 h6 hz
 go_enter Tryz.func31,Tryz.ntmps31
 go_wp2_with fail
 clear c0 c1 c2 p0 p1 p2 hkl
 refine HK.out.mono ?_
 rintro e w1 ⟨⟨P5,n5,c5,Q5,m5,d5,rfl,hst⟩,hb⟩
 have HBT:Hid (But k w w1):=But.of_below hb
 have HW:=jq ((H.out.keep hb).mono (show z<=z by omega))
 have HST:=jq hst
 have HBN:=jq (zaB w1 (.cells #[.slice P5 n5 c5,.slice Q5 m5 d5] 30))
 clear hb hst HK H
 go_wp2_with fail
 refine(put_wk (r:=(killS s)) (HW.out.keep HBN.out) (HST.out.keep HBN.out) HSN.out).mono ?_
 rintro e w2 ⟨rfl,hc,hbt⟩
 have HC:=jq hc
 have HBT:=jq ((HBT.out.trans (But.of_below HBN.out)).trans hbt)
 clear hc hbt
 go_wp2_with fail
 have hR:putR (killS s) x=killR x:=put_ofP (f:=fun s=>killS s) HQ.out
 rw[hR] at HC
 exact bodyPost_end (v:=.tuple #[]) (by simp[results,Tryz.results31,go_sem]) rfl ⟨rfl,HC.out,HBT.out⟩
theorem open_wk {w:World}{k:Nat}{x:Rs}{z:Nat}{op:Int}{l:List Int}{lv:Value}(h:Cw w k x z)(hz:z<=390000)(hop:w64 op)(hl:Row elB w lv l)(hn:l.length<=400000):Calls Tryz.prog 68 #[.pointer (some ⟨k,0,none⟩),.int .i64 op,lv] w (CwEnds w k (openR op l x) (z+1) (.tuple #[])):=by
 obtain⟨P,n,c,Q,m,d,s,h1,h2,h3,h4,h5,h6⟩:=h.ck
 have HK:=jq (ropen_any h2 hl hop (by omega) (by omega) hn)
 have HSN:Hid ((openS s op l).2=0->sane (openS s op l).1=true/\(openS s op l).1.vals.length<=z+1/\(openS s op l).1.cs.length<=z+1):=jq fun h0=>⟨sane_act (a:=⟨5,op,l⟩) (act_open (s:=s) (a:=⟨5,op,l⟩) rfl).symm h3 h0,bd_of (Bd.open (bd_ok h4 h5)) h0⟩
 have H:=jq h
 have HQ:=jq h6
 have HPR:=jq (pop_rng h2)
 obtain⟨c0,c1,c2,p0,p1,p2⟩:=cells3 h1
 have hkl:k<w.heap.size:=h.lt
 clear h h1 h2 h3 h4 h5 h6 hz hl hn hop
 go_enter Tryz.func68,Tryz.ntmps68
 go_wp2_with fail
 clear c0 c1 c2 p0 p1 p2 hkl
 refine HK.out.mono ?_
 rintro e w1 ⟨⟨P5,n5,c5,Q5,m5,d5,rfl,hst⟩,hb⟩
 have HBT:Hid (But k w w1):=But.of_below hb
 have HW:=jq ((H.out.keep hb).mono (show z<=z+1 by omega))
 have HST:=jq hst
 have HBN:=jq (zaB w1 (.cells #[.slice P5 n5 c5,.slice Q5 m5 d5] 30))
 clear hb hst HK H
 go_wp2_with fail
 refine(put_wk (r:=(openS s op l)) (HW.out.keep HBN.out) (HST.out.keep HBN.out) HSN.out).mono ?_
 rintro e w2 ⟨rfl,hc,hbt⟩
 have HC:=jq hc
 have HBT:=jq ((HBT.out.trans (But.of_below HBN.out)).trans hbt)
 clear hc hbt
 go_wp2_with fail
 have hR:putR (openS s op l) x=openR op l x:=put_ofP (f:=fun s=>openS s op l) HQ.out
 rw[hR] at HC
 exact bodyPost_end (v:=.tuple #[]) (by simp[results,Tryz.results68,go_sem]) rfl ⟨rfl,HC.out,HBT.out⟩
def CwTells (w:World)(k:Nat)(x:Rs)(z:Nat)(R:Value->World->Prop)(e:Ending)(w':World):Prop:=∃r,e= .returned r/\R r w'/\Cw w' k x z/\But k w w'
theorem pop_wk {w:World}{k:Nat}{x:Rs}{z:Nat}(h:Cw w k x z)(hz:z<=390000):Calls Tryz.prog 72 #[.pointer (some ⟨k,0,none⟩)] w (CwTells w k (popR x) z fun r _=>∃t,r= .int .u8 t/\(0<=t/\t<256)/\∀s,x= .ok s->t=popB x):=by
 obtain⟨P,n,c,Q,m,d,s,h1,h2,h3,h4,h5,h6⟩:=h.ck
 have HK:=jq (rpop_any h2 (by omega) (by omega))
 have HSN:Hid (((popS s).1,(popS s).2.2).2=0->sane ((popS s).1,(popS s).2.2).1=true/\((popS s).1,(popS s).2.2).1.vals.length<=z/\((popS s).1,(popS s).2.2).1.cs.length<=z):=jq fun h0=>⟨sane_act (a:=⟨2,0,[]⟩) (act_pop rfl).symm h3 h0,bd_of (Bd.pop (bd_ok h4 h5)) h0⟩
 have H:=jq h
 have HQ:=jq h6
 have HPR:=jq (pop_rng h2)
 obtain⟨c0,c1,c2,p0,p1,p2⟩:=cells3 h1
 have hkl:k<w.heap.size:=h.lt
 clear h h1 h2 h3 h4 h5 h6 hz
 go_enter Tryz.func72,Tryz.ntmps72
 go_wp2_with fail
 clear c0 c1 c2 p0 p1 p2 hkl
 refine HK.out.mono ?_
 rintro e w1 ⟨⟨P5,n5,c5,Q5,m5,d5,rfl,hst⟩,hb⟩
 have HBT:Hid (But k w w1):=But.of_below hb
 have HW:=jq ((H.out.keep hb).mono (show z<=z by omega))
 have HST:=jq hst
 have HBN:=jq (zaB w1 (.cells #[.slice P5 n5 c5,.slice Q5 m5 d5] 30))
 clear hb hst HK H
 go_wp2_with fail
 refine(put_wk (r:=((popS s).1,(popS s).2.2)) (HW.out.keep HBN.out) (HST.out.keep HBN.out) HSN.out).mono ?_
 rintro e w2 ⟨rfl,hc,hbt⟩
 have HC:=jq hc
 have HBT:=jq ((HBT.out.trans (But.of_below HBN.out)).trans hbt)
 clear hc hbt
 go_wp2_with fail
 have hR:putR ((popS s).1,(popS s).2.2) x=popR x:=put_ofP (f:=fun s=>((popS s).1,(popS s).2.2)) HQ.out
 rw[hR] at HC
 exact bodyPost_ret (v:=.int .u8 (popS s).2.1) (by simp[results,Tryz.results72,go_sem]) rfl ⟨_,rfl,⟨_,rfl,HPR.out,fun t ht=>by rw[ht,HQ.out t ht];rfl⟩,HC.out,HBT.out⟩
theorem label_need {x:Rs}{s:Stk}{i:Int}(h:∀t,x= .ok t->t=s):labelR i x=needR ((labelS s i).2 == 0) (labelS s i).2 x:=by
 cases x with
 | er e=>rfl
 | ok t=>
  obtain rfl:=h t rfl
  unfold labelR needR Rs.bind
  simp only[beq_iff_eq]
theorem label_wk {w:World}{k:Nat}{x:Rs}{z:Nat}{i:Int}(h:Cw w k x z)(hz:z<=390000)(hi:w64 i):Calls Tryz.prog 71 #[.pointer (some ⟨k,0,none⟩),.int .i64 i] w (CwTells w k (labelR i x) z fun r w'=>∃P n c l,r= .slice P n c/\Row elB w' (.slice P n c) l/\l.length=n/\n<=1/\∀s,x= .ok s->l=labelL i x):=by
 obtain⟨P,n,c,Q,m,d,s,h1,h2,h3,h4,h5,h6⟩:=h.ck
 obtain⟨va,vc,lc,e0,ha,hc,hm⟩:=id h2
 injection e0 with e0
 have e0:=congrArg Array.toList e0
 simp only[List.cons.injEq,and_true] at e0
 obtain⟨rfl,rfl⟩:=e0
 have hll:lc.length=s.cs.length:=by rw[<- hm,List.length_map]
 have hK:=rLabel_any ha hc hi (by omega) (fun p hp=>Nat.le_trans (sane_fins h3 p.1 (by rw[<- hm];exact List.mem_map_of_mem hp)) (by omega))
 rw[hm] at hK
 have HK:Hid (Calls Tryz.prog 102 #[.agg #[.slice P n c,.slice Q m d],.int .i64 i] w (LabTold (labelS s i) w)):=hK
 have H:=jq h
 have HQ:=jq h6
 have HL:=jq (label_len s i)
 obtain⟨c0,c1,c2,p0,p1,p2⟩:=cells3 h1
 have hkl:k<w.heap.size:=h.lt
 clear h h1 h2 h3 h4 h5 h6 hz ha hc hm hll hK hi
 go_enter Tryz.func71,Tryz.ntmps71
 go_wp2_with fail
 clear c0 c1 c2 p0 p1 p2 hkl
 refine HK.out.mono ?_
 rintro e w1 ⟨⟨vl,rfl,hrow⟩,hb⟩
 obtain⟨Pl,cl,rfl,_⟩:=hrow.form
 have HBT:Hid (But k w w1):=But.of_below hb
 have HW:=jq (H.out.keep hb)
 have HRW:=jq hrow
 clear hb hrow HK H
 go_wp2_with fail
 refine(must_wk (b:=(labelS s i).2 == 0) HW.out (by by_cases h0:(labelS s i).2=0;right;simpa using h0;left;exact h0)).mono ?_
 rintro e w2 ⟨rfl,hc,hbt⟩
 have HRW:=jq (zaG HRW.out HW.out.nobb hbt)
 have HC:=jq hc
 have HBT:=jq (HBT.out.trans hbt)
 clear hc hbt
 go_wp2_with fail
 rw[<- label_need HQ.out] at HC
 exact bodyPost_ret (v:=.slice Pl (labelS s i).1.length cl) (by simp[results,Tryz.results71,go_sem]) rfl ⟨_,rfl,⟨_,_,_,_,rfl,HRW.out,rfl,HL.out,fun t ht=>by rw[ht,HQ.out t ht];rfl⟩,HC.out,HBT.out⟩
def NoB8 (w:World)(z:Nat):Prop:=∀i x,w.cell? ⟨z,i,none⟩≠some (.int .u8 x)
theorem nob8_ctl {w:World}{y:Nat}{a b:Int}{A:Option Addr}{n c:Nat}{d:Bool}{t:TypeId}(h:w.heap[y]? = some (.cells #[.int .i64 a,.slice A n c,.int .i64 b,.bool d] t (0,0))):NoB8 w y:=by
 intro i x e
 rw[(zaA h i).1] at e
 have hm:=Array.mem_of_getElem? e
 rw[<- Array.mem_toList_iff] at hm
 simp only[List.mem_cons,List.not_mem_nil,or_false] at hm
 rcases hm with h | h | h | h <;> cases h
theorem rowB_apart2 {w W:World}{y k:Nat}{v:Value}{l:List Int}(h:Row elB w v l)(hy:NoB8 w y)(hk:NoB8 w k)(hsz:w.heap.size<=W.heap.size)(hc:∀j,j<w.heap.size->j≠y->j≠k->W.heap[j]? = w.heap[j]?):Row elB W v l:=by
 obtain⟨⟨B,d,h1,h2,h3,h4⟩,h5⟩:=h
 refine⟨⟨B,d,h1,h2,h3,fun h0=>?_⟩,h5⟩
 obtain⟨g,off,e,hg,hB⟩:=h4 h0
 have hne:g≠y/\g≠k:=by
  obtain⟨p,hp⟩:∃p,l[0]? = some p:=by
   cases l with
   | nil=>exact absurd rfl h0
   | cons p l=>exact ⟨p,rfl⟩
  have h6:=hB 0 p hp 0 _ rfl
  exact⟨fun e=>by subst e;exact hy _ _ h6,fun e=>by subst e;exact hk _ _ h6⟩
 refine⟨g,off,e,Nat.lt_of_lt_of_le hg hsz,fun j p hj i' u' hu=>?_⟩
 have h6:=hB j p hj i' u' hu
 have h7:=hc g hg hne.1 hne.2
 simp only[World.cell?] at h6 ⊢
 rw[h7]
 exact h6
theorem nob8_of {w:World}{k:Nat}(h:NoBB w k):NoB8 w k:=fun i x=>(h i).1 x
theorem apt_eo {y k B:Nat}{w:World}{Pv Qv:Option Addr}{nv cv mv dv:Nat}{S:Stk}{l:List CtV}(h1:EO elB w B (.slice Pv nv cv) S.vals)(h2:EO elD w B (.slice Qv mv dv) l)(h3:l.map (·.1)=S.cs)(h4:∀p∈S.vals,0<=p/\p<256)(h5:∀p∈l,CtOk w p)(hy:y<B)(hk:k<B)(ny:NoB8 w y)(nk:NoB8 w k):Apt y k w (.agg #[.slice Pv nv cv,.slice Qv mv dv]) S:=fun W hsz hc=>by
 have hst:∀j,B<=j->j<w.heap.size->W.heap[j]? = w.heap[j]?:=fun j hj hl=>hc j hl (by omega) (by omega)
 exact⟨_,_,l,rfl,(h1.stay hst).row h4,(h2.stay hst).row (fun p hp=>⟨rowB_apart2 (h5 p hp).1 ny nk hsz hc,(h5 p hp).2⟩),h3⟩
theorem closed_wk {w:World}{k:Nat}{x:Rs}{z:Nat}(h:Cw w k x z)(hz:z<=390000):Calls Tryz.prog 70 #[.pointer (some ⟨k,0,none⟩)] w (CwTells w k (closeR x) z fun r w'=>∃op P n c ht d l,r= .agg #[.int .i64 op,.slice P n c,.int .i64 ht,.bool d]/\Row elB w' (.slice P n c) l/\l.length=n/\n<=1/\∀s,x= .ok s->op=(closedC x).op/\l=(closedC x).fin):=by
 have HB0:=jq (zaB w (.cells #[.int .i64 0,.slice none 0 0,.int .i64 0,.bool false] 76))
 have HR0:=jq (zaC w (.cells #[.int .i64 0,.slice none 0 0,.int .i64 0,.bool false] 76))
 have H:=jq (h.keep HB0.out)
 have HA:=jq (h.apt HB0.out (Nat.le_refl _))
 have HYK:Hid (w.heap.size≠k):=jq (by have:=h.lt;omega)
 have HBT:Hid (But k w (w.alloc (.cells #[.int .i64 0,.slice none 0 0,.int .i64 0,.bool false] 76))):=But.of_below HB0.out
 obtain⟨P,n,c,Q,m,d,s,h1,h2,h3,h4,h5,h6⟩:=H.out.ck
 have HK:=jq (rclose_eo h2 (by omega) (by omega))
 have HSN:Hid (((zaM s).1,(zaM s).2.2).2=0->sane ((zaM s).1,(zaM s).2.2).1=true/\((zaM s).1,(zaM s).2.2).1.vals.length<=z/\((zaM s).1,(zaM s).2.2).1.cs.length<=z):=jq fun h0=>⟨sane_act (a:=⟨6,0,[]⟩) (act_close rfl).symm h3 h0,bd_of (Bd.close (bd_ok h4 h5)) h0⟩
 have HQ:=jq h6
 have HL:Hid ((zaM s).2.1.fin.length<=1):=jq (closed_len (.ok s))
 obtain⟨c0,c1,c2,p0,p1,p2⟩:=cells3 h1
 have hkl:k<(w.alloc (.cells #[.int .i64 0,.slice none 0 0,.int .i64 0,.bool false] 76)).heap.size:=H.out.lt
 have HKL:Hid (k<(w.alloc (.cells #[.int .i64 0,.slice none 0 0,.int .i64 0,.bool false] 76)).heap.size):=jq hkl
 have HYL:Hid (w.heap.size<(w.alloc (.cells #[.int .i64 0,.slice none 0 0,.int .i64 0,.bool false] 76)).heap.size):=jq (by rw[zaD];omega)
 clear h hz h1 h2 h3 h4 h5 h6
 go_enter Tryz.func70,Tryz.ntmps70
 go_wp2_with fail
 clear c0 c1 c2 p0 p1 p2 hkl
 generalize w.alloc (.cells #[.int .i64 0,.slice none 0 0,.int .i64 0,.bool false] 76)=w0 at *
 obtain⟨y,hy⟩:∃y,w.heap.size=y:=⟨_,rfl⟩
 rw[hy] at HR0 HYK HA HYL
 simp only[hy]
 have HYW:=jq hy
 clear hy
 refine HK.out.mono ?_
 rintro e w1 ⟨⟨P5,n5,c5,Q5,m5,d5,l5,R5,k5,f5,rfl,he1,he2,hml,hok,hck,hrow⟩,hb⟩
 have HBT:=jq (HBT.out.trans (But.of_below hb))
 have HA1:=jq (HA.out.keep hb)
 have HW:=jq (H.out.keep hb)
 have HR1:=jq (blk HR0.out hb)
 have HBN:=jq (below2 w1 (.cells #[.slice P5 n5 c5,.slice Q5 m5 d5] 30) (.cells #[.int .i64 (zaM s).2.1.op,.slice R5 k5 f5,.int .i64 (zaM s).2.1.ht,.bool (zaM s).2.1.dead] 76))
 have HCB:=jq (zaC (w1.alloc (.cells #[.slice P5 n5 c5,.slice Q5 m5 d5] 30)) (.cells #[.int .i64 (zaM s).2.1.op,.slice R5 k5 f5,.int .i64 (zaM s).2.1.ht,.bool (zaM s).2.1.dead] 76))
 rw[zaD] at HCB
 have HAP:Hid (Apt y k ((w1.alloc (.cells #[.slice P5 n5 c5,.slice Q5 m5 d5] 30)).alloc (.cells #[.int .i64 (zaM s).2.1.op,.slice R5 k5 f5,.int .i64 (zaM s).2.1.ht,.bool (zaM s).2.1.dead] 76)) (.agg #[.slice P5 n5 c5,.slice Q5 m5 d5]) (zaM s).1):=jq (apt_eo (he1.keep HBN.out) (he2.keep HBN.out) hml hok (fun p hp=>(hck p hp).keep HBN.out) HYL.out HKL.out (nob8_ctl (blk HR1.out HBN.out)) (nob8_of (HW.out.keep HBN.out).nobb))
 have HRW:=jq (hrow.keep HBN.out)
 have HKW:Hid (k<w1.heap.size):=HW.out.lt
 have hk5:(zaM s).2.1.fin.length=k5:=by obtain ⟨_,_,e,_⟩:=hrow.form;injection e with _ e;exact e.symm
 have HK5:=jq hk5
 clear hb he1 he2 hml hok hck hrow HK H HR0 HB0 HA hk5
 go_wp2_with fail
 refine(put_apt (y:=y) (r:=((zaM s).1,(zaM s).2.2)) (HA1.out.keep HBN.out) HAP.out HSN.out).mono ?_
 rintro e w2 ⟨rfl,hc,hbt⟩
 have HRW:=jq (zaG HRW.out (HW.out.keep HBN.out).nobb hbt)
 have HR1:=jq ((hbt.block y (Nat.lt_of_lt_of_le (jl HR1.out) HBN.out.size) HYK.out).trans (blk HR1.out HBN.out))
 have HCB:=jq ((hbt.block (w1.heap.size+1) (jl HCB.out) (by have:=HKW.out;omega)).trans HCB.out)
 have HC:=jq hc
 have HBT:=jq ((HBT.out.trans (But.of_below HBN.out)).trans hbt)
 have hR:putR ((zaM s).1,(zaM s).2.2) x=closeR x:=put_ofP (f:=fun s=>((zaM s).1,(zaM s).2.2)) HQ.out
 rw[hR] at HC
 clear hc hbt HBN hR HSN HW HA1 HAP
 obtain⟨b0,b1,b2,b3⟩:_/\_/\_/\_:=⟨(zaA HCB.out 0).1,(zaA HCB.out 1).1,(zaA HCB.out 2).1,(zaA HCB.out 3).1⟩
 obtain⟨q0,q1,q2,q3⟩:_/\_/\_/\_:=⟨(zaA HR1.out 0).1,(zaA HR1.out 1).1,(zaA HR1.out 2).1,(zaA HR1.out 3).1⟩
 obtain⟨e0,e1,e2,e3⟩:_/\_/\_/\_:=⟨(zaA HR1.out 0).2,(zaA HR1.out 1).2,(zaA HR1.out 2).2,(zaA HR1.out 3).2⟩
 have hyl:y<w2.heap.size:=jl HR1.out
 have hcl:w1.heap.size+1<w2.heap.size:=jl HCB.out
 go_wp2_with fail
 have hbt4:But y w2 ((((w2.setCell ⟨y,0,none⟩ (.int .i64 (zaM s).2.1.op)).setCell ⟨y,1,none⟩ (.slice R5 k5 f5)).setCell ⟨y,2,none⟩ (.int .i64 (zaM s).2.1.ht)).setCell ⟨y,3,none⟩ (.bool (zaM s).2.1.dead)):=((((But.refl y w2).setCell 0 _).setCell 1 _).setCell 2 _).setCell 3 _
 have hf:(((((w2.setCell ⟨y,0,none⟩ (.int .i64 (zaM s).2.1.op)).setCell ⟨y,1,none⟩ (.slice R5 k5 f5)).setCell ⟨y,2,none⟩ (.int .i64 (zaM s).2.1.ht)).setCell ⟨y,3,none⟩ (.bool (zaM s).2.1.dead))).heap[y]? = some (.cells #[.int .i64 (zaM s).2.1.op,.slice R5 k5 f5,.int .i64 (zaM s).2.1.ht,.bool (zaM s).2.1.dead] 76 (0,0)):=by
  rw[zaE (zaE (zaE (zaE HR1.out _) _) _) _]
  rfl
 have hc4:=HC.out.at_ HYK.out hbt4
 have hrw4:=rowB_apart2 (W:=((((w2.setCell ⟨y,0,none⟩ (.int .i64 (zaM s).2.1.op)).setCell ⟨y,1,none⟩ (.slice R5 k5 f5)).setCell ⟨y,2,none⟩ (.int .i64 (zaM s).2.1.ht)).setCell ⟨y,3,none⟩ (.bool (zaM s).2.1.dead))) HRW.out (nob8_ctl HR1.out) (nob8_ctl HR1.out) hbt4.size (fun j hj hy _=>hbt4.block j hj hy)
 have hbk:But k w ((((w2.setCell ⟨y,0,none⟩ (.int .i64 (zaM s).2.1.op)).setCell ⟨y,1,none⟩ (.slice R5 k5 f5)).setCell ⟨y,2,none⟩ (.int .i64 (zaM s).2.1.ht)).setCell ⟨y,3,none⟩ (.bool (zaM s).2.1.dead)):=⟨hbt4.os.trans HBT.out.os,hbt4.tape.trans HBT.out.tape,hbt4.output.trans HBT.out.output,Nat.le_trans HBT.out.size hbt4.size,fun j hj hk=>(hbt4.block j (Nat.lt_of_lt_of_le hj HBT.out.size) (by have:=HYW.out;omega)).trans (HBT.out.block j hj hk)⟩
 obtain⟨f0,f1,f2,f3⟩:_/\_/\_/\_:=⟨(zaA hf 0).1,(zaA hf 1).1,(zaA hf 2).1,(zaA hf 3).1⟩
 clear b0 b1 b2 b3 q0 q1 q2 q3 e0 e1 e2 e3 hyl hcl
 generalize ((((w2.setCell ⟨y,0,none⟩ (.int .i64 (zaM s).2.1.op)).setCell ⟨y,1,none⟩ (.slice R5 k5 f5)).setCell ⟨y,2,none⟩ (.int .i64 (zaM s).2.1.ht)).setCell ⟨y,3,none⟩ (.bool (zaM s).2.1.dead))=wf at *
 simp only[List.getElem?_toArray,List.getElem?_cons_zero,List.getElem?_cons_succ] at f0 f1 f2 f3
 exact bodyPost_ret (v:=.agg #[.int .i64 (zaM s).2.1.op,.slice R5 k5 f5,.int .i64 (zaM s).2.1.ht,.bool (zaM s).2.1.dead]) (by simp[results,Tryz.results70,go_sem,f0,f1,f2,f3]) rfl ⟨_,rfl,⟨_,_,_,_,_,_,_,rfl,hrw4,HK5.out,by have:=HL.out;have:=HK5.out;omega,fun t ht=>by rw[ht,HQ.out t ht];exact⟨rfl,rfl⟩⟩,hc4,hbk⟩
theorem i32_wk (w:World):Calls Tryz.prog 40 #[] w fun e w'=>∃v,e= .returned v/\Row elB w' v [127]/\Below w.heap.size w w':=by
 go_enter Tryz.func40,Tryz.ntmps40
 go_wp2_with fail
 exact bodyPost_ret (v:=.slice (some ⟨w.heap.size,0,none⟩) 1 1) (by simp[results,Tryz.results40,go_sem]) rfl ⟨_,rfl,zaL w 127 ⟨by omega,by omega⟩,zaB w _⟩
def EvAt (w:World)(k:Nat)(V:EV)(E:EnvP):Prop:=∃w0,EnvOk elGD w0 V E/\w0.heap.size<=k/\Below w0.heap.size w0 w
theorem EvAt.but {w w':World}{k:Nat}{V:EV}{E:EnvP}(h:EvAt w k V E)(hb:But k w w')(hk:k<w.heap.size):EvAt w' k V E:=by
 obtain⟨w0,h1,h3,h4⟩:=h
 exact⟨w0,h1,h3,h4.trans (hb.below h3 hk)⟩
theorem EvAt.keep {w w':World}{k:Nat}{V:EV}{E:EnvP}(h:EvAt w k V E)(hb:Below w.heap.size w w'):EvAt w' k V E:=by
 obtain⟨w0,h1,h3,h4⟩:=h
 exact⟨w0,h1,h3,h4.trans (hb.mono h4.size)⟩
theorem EvAt.env {w:World}{k:Nat}{V:EV}{E:EnvP}(h:EvAt w k V E):EnvOk elGD w V E:=by
 obtain⟨w0,h1,_,h4⟩:=h
 exact h1.keep h4
theorem choose_of {x1:Rs}{a b:Int}(ha:∀s,x1= .ok s->a=popB x1)(hb:∀s,popR x1= .ok s->b=popB (popR x1)):
  pushR [if a=0 then b else a] (needR ((a == b) || (a == 0) || (b == 0)) 5 (popR (popR x1)))=pushR [if popB x1=0 then popB (popR x1) else popB x1] (needR ((popB x1 == popB (popR x1)) || (popB x1 == 0) || (popB (popR x1) == 0)) 5 (popR (popR x1))):=by
 cases x1 with
 | er e=>rfl
 | ok s=>
  rw[ha s rfl]
  cases h2:popR (.ok s) with
  | er e=>rfl
  | ok t=>rw[hb t h2,h2]
theorem chosen_26 {w:World}{k:Nat}{x:Rs}{z:Nat}{A B K:Int}{lab:Value}(h:Cw w k x z)(hz:z<=300000):Calls Tryz.prog 36 #[.pointer (some ⟨k,0,none⟩),.agg #[.int .i64 26,.int .i64 A,.int .i64 B,.int .u64 K,lab]] w (CwEnds w k (popR x) (z) (.tuple #[])):=by
 obtain⟨Y,hY⟩:∃Y,(popR x)=Y:=⟨_,rfl⟩
 rw[hY]
 have HD:=jq hY
 clear hY
 have HBX:=jq (zaB w (oI 26 A B K lab))
 have HXI:=jq (zaC w (oI 26 A B K lab))
 have HYI:Hid (w.heap.size≠k):=jq (by have:=h.lt;omega)
 have HC:=jq (h.keep HBX.out)
 have HBT:Hid (But k w (w.alloc (oI 26 A B K lab))):=But.of_below HBX.out
 have HZ:=jq hz
 clear h hz
 obtain⟨b0,b1,b4⟩:=cells5 HXI.out
 have bl:=jl HXI.out
 go_enter Tryz.func36,Tryz.ntmps36
 go_wp2_with fail
 clear b0 b1 b4 bl
 generalize w.alloc (oI 26 A B K lab)=u0 at *
 obtain⟨q,hq⟩:∃q,w.heap.size=q:=⟨_,rfl⟩
 rw[hq] at HXI HYI
 simp only[hq]
 clear hq HBX
 refine(pop_wk HC.out (by have:=HZ.out;omega)).mono ?_
 rintro e w1 ⟨r,rfl,⟨t,rfl,_,_⟩,hc,hbt⟩
 have HXI:=jq (hbt.bk HXI.out HYI.out)
 have HBT:=jq (HBT.out.trans hbt)
 have HC:=jq hc
 clear hc hbt
 go_wp2_with fail
 exact bodyPost_end (v:=.tuple #[]) (by simp[results,Tryz.results36,go_sem]) rfl ⟨rfl,by rw[<- HD.out];exact HC.out,HBT.out⟩
theorem chosen_27 {w:World}{k:Nat}{x:Rs}{z:Nat}{A B K:Int}{lab:Value}(h:Cw w k x z)(hz:z<=300000):Calls Tryz.prog 36 #[.pointer (some ⟨k,0,none⟩),.agg #[.int .i64 27,.int .i64 A,.int .i64 B,.int .u64 K,lab]] w (CwEnds w k (pushR [if popB (wantR [127] x)=0 then popB (popR (wantR [127] x)) else popB (wantR [127] x)] (needR ((popB (wantR [127] x) == popB (popR (wantR [127] x))) || (popB (wantR [127] x) == 0) || (popB (popR (wantR [127] x)) == 0)) 5 (popR (popR (wantR [127] x))))) (z+1) (.tuple #[])):=by
 obtain⟨Y,hY⟩:∃Y,(pushR [if popB (wantR [127] x)=0 then popB (popR (wantR [127] x)) else popB (wantR [127] x)] (needR ((popB (wantR [127] x) == popB (popR (wantR [127] x))) || (popB (wantR [127] x) == 0) || (popB (popR (wantR [127] x)) == 0)) 5 (popR (popR (wantR [127] x)))))=Y:=⟨_,rfl⟩
 rw[hY]
 have HD:=jq hY
 clear hY
 have HBX:=jq (zaB w (oI 27 A B K lab))
 have HXI:=jq (zaC w (oI 27 A B K lab))
 have HYI:Hid (w.heap.size≠k):=jq (by have:=h.lt;omega)
 have HC:=jq (h.keep HBX.out)
 have HBT:Hid (But k w (w.alloc (oI 27 A B K lab))):=But.of_below HBX.out
 have HZ:=jq hz
 clear h hz
 obtain⟨b0,b1,b4⟩:=cells5 HXI.out
 have bl:=jl HXI.out
 go_enter Tryz.func36,Tryz.ntmps36
 go_wp2_with fail
 clear b0 b1 b4 bl
 generalize w.alloc (oI 27 A B K lab)=u0 at *
 obtain⟨q,hq⟩:∃q,w.heap.size=q:=⟨_,rfl⟩
 rw[hq] at HXI HYI
 simp only[hq]
 clear hq HBX
 refine(i32_wk _).mono ?_
 rintro e w1 ⟨v127,rfl,hr,hb⟩
 have HXI:=jq (blk HXI.out hb)
 have HBT:=jq (HBT.out.trans (But.of_below hb))
 have HC:=jq (HC.out.keep hb)
 have H127:=jq hr
 clear hb hr
 go_wp2_with fail
 refine(want_wk HC.out (by have:=HZ.out;omega) H127.out (by simp)).mono ?_
 rintro e w2 ⟨rfl,hc,hbt⟩
 have HXI:=jq (hbt.bk HXI.out HYI.out)
 have HBT:=jq (HBT.out.trans hbt)
 have HC:=jq hc
 clear hc hbt
 go_wp2_with fail
 generalize wantR [127] x=x1 at *
 refine(pop_wk HC.out (by have:=HZ.out;omega)).mono ?_
 rintro e w3 ⟨r,rfl,⟨ta,rfl,⟨ra0,ra1⟩,hta⟩,hc,hbt⟩
 have HXI:=jq (hbt.bk HXI.out HYI.out)
 have HBT:=jq (HBT.out.trans hbt)
 have HC:=jq hc
 clear hc hbt
 have HTA:=jq hta
 clear hta
 go_wp2_with fail
 refine(pop_wk HC.out (by have:=HZ.out;omega)).mono ?_
 rintro e w4 ⟨r,rfl,⟨tb,rfl,⟨rb0,rb1⟩,htb⟩,hc,hbt⟩
 have HXI:=jq (hbt.bk HXI.out HYI.out)
 have HBT:=jq (HBT.out.trans hbt)
 have HC:=jq hc
 clear hc hbt
 have HTB:=jq htb
 clear htb
 have HCH:=jq (choose_of HTA.out HTB.out)
 rw[<- HCH.out] at HD
 have HRA:Hid (0<=ta/\ta<256):=⟨ra0,ra1⟩
 have HRB:Hid (0<=tb/\tb<256):=⟨rb0,rb1⟩
 by_cases h0:ta=0
 ·subst h0
  have hbb:((0 == tb) || ((0:Int) == 0) || (tb == 0))=true:=by cases (0 == tb) <;> rfl
  rw[hbb,if_pos rfl] at HD
  clear hbb
  go_wp2_with fail
  refine(must_wk (b:=true) HC.out (.inr rfl)).mono ?_
  rintro e w5 ⟨rfl,hc,hbt⟩
  have HXI:=jq (hbt.bk HXI.out HYI.out)
  have HBT:=jq (HBT.out.trans hbt)
  have HC:=jq hc
  clear hc hbt
  go_wp2_with fail
  have HNW:=jq (zaB w5 (.cells #[.int .u8 tb] 5))
  have HLR:=jq (zaL w5 tb HRB.out)
  have HXI:=jq (blk HXI.out HNW.out)
  have HBT:=jq (HBT.out.trans (But.of_below HNW.out))
  have HC:=jq (HC.out.keep HNW.out)
  clear HNW
  refine(push_wk (y:=1) HC.out (by have:=HZ.out;omega) HLR.out (by simp) (by omega)).mono ?_
  rintro e w6 ⟨rfl,hc,hbt⟩
  have HXI:=jq (hbt.bk HXI.out HYI.out)
  have HBT:=jq (HBT.out.trans hbt)
  have HC:=jq hc
  clear hc hbt
  go_wp2_with fail
  exact bodyPost_end (v:=.tuple #[]) (by simp[results,Tryz.results36,go_sem]) rfl ⟨rfl,by rw[<- HD.out];exact HC.out,HBT.out⟩
 ·have t1:(ta == 0)=false:=by simpa using h0
  by_cases h1:tb=0
  ·subst h1
   have hbb:((ta == 0) || (ta == 0) || ((0:Int) == 0))=true:=by cases (ta == 0) <;> rfl
   rw[hbb,if_neg h0] at HD
   clear hbb
   go_wp2_with fail
   refine(must_wk (b:=true) HC.out (.inr rfl)).mono ?_
   rintro e w5 ⟨rfl,hc,hbt⟩
   have HXI:=jq (hbt.bk HXI.out HYI.out)
   have HBT:=jq (HBT.out.trans hbt)
   have HC:=jq hc
   clear hc hbt
   go_wp2_with fail
   have HNW:=jq (zaB w5 (.cells #[.int .u8 ta] 5))
   have HLR:=jq (zaL w5 ta HRA.out)
   have HXI:=jq (blk HXI.out HNW.out)
   have HBT:=jq (HBT.out.trans (But.of_below HNW.out))
   have HC:=jq (HC.out.keep HNW.out)
   clear HNW
   refine(push_wk (y:=1) HC.out (by have:=HZ.out;omega) HLR.out (by simp) (by omega)).mono ?_
   rintro e w6 ⟨rfl,hc,hbt⟩
   have HXI:=jq (hbt.bk HXI.out HYI.out)
   have HBT:=jq (HBT.out.trans hbt)
   have HC:=jq hc
   clear hc hbt
   go_wp2_with fail
   exact bodyPost_end (v:=.tuple #[]) (by simp[results,Tryz.results36,go_sem]) rfl ⟨rfl,by rw[<- HD.out];exact HC.out,HBT.out⟩
  ·have t2:(tb == 0)=false:=by simpa using h1
   have hbb:((ta == tb) || (ta == 0) || (tb == 0))=(ta == tb):=by rw[t1,t2];cases (ta == tb) <;> rfl
   rw[hbb,if_neg h0] at HD
   clear hbb
   go_wp2_with fail
   refine(must_wk (b:=ta == tb) HC.out (.inl (by decide))).mono ?_
   rintro e w5 ⟨rfl,hc,hbt⟩
   have HXI:=jq (hbt.bk HXI.out HYI.out)
   have HBT:=jq (HBT.out.trans hbt)
   have HC:=jq hc
   clear hc hbt
   go_wp2_with fail
   have HNW:=jq (zaB w5 (.cells #[.int .u8 ta] 5))
   have HLR:=jq (zaL w5 ta HRA.out)
   have HXI:=jq (blk HXI.out HNW.out)
   have HBT:=jq (HBT.out.trans (But.of_below HNW.out))
   have HC:=jq (HC.out.keep HNW.out)
   clear HNW
   refine(push_wk (y:=1) HC.out (by have:=HZ.out;omega) HLR.out (by simp) (by omega)).mono ?_
   rintro e w6 ⟨rfl,hc,hbt⟩
   have HXI:=jq (hbt.bk HXI.out HYI.out)
   have HBT:=jq (HBT.out.trans hbt)
   have HC:=jq hc
   clear hc hbt
   go_wp2_with fail
   exact bodyPost_end (v:=.tuple #[]) (by simp[results,Tryz.results36,go_sem]) rfl ⟨rfl,by rw[<- HD.out];exact HC.out,HBT.out⟩
end Go.Proofs.YtlappkflnlbfcaaGreatDoor.Chk
