import Derived.Test.YtlappkflnlbfcaaGreatDoorPkChkWk
import Derived.Test.YtlappkflnlbfcaaGreatDoorPkChkEnvC
import Derived.Test.YtlappkflnlbfcaaGreatDoorPkChkRBody
import Derived.Test.YtlappkflnlbfcaaGreatDoorPkChkStepP
import Derived.Test.YtlappkflnlbfcaaGreatDoorPkStkRLabel
import Derived.Test.YtlappkflnlbfcaaGreatDoorPkStabM
namespace Go.Proofs.YtlappkflnlbfcaaGreatDoor.Chk
open Lib renaming hid → jq
open Go.RowKit Row9 Stk
set_option maxRecDepth 100000
set_option maxHeartbeats 8000000
set_option linter.unusedVariables false
theorem small_bdN {E:EnvP}(h:smallE E=true):E.globs.length<=1000000/\E.locals.length<=1000000/\E.types.length<=1000000:=by
 unfold smallE at h
 simp only[Bool.and_eq_true,decide_eq_true_eq,List.all_eq_true] at h
 obtain⟨⟨⟨⟨⟨h1,h2⟩,h3⟩,h4⟩,h5⟩,h6⟩:=h
 exact⟨by omega,by omega,by omega⟩
def PathVD (R:List Stk×Int)(w:World)(P:Option Addr)(np cp:Nat):Prop:=(R.2=0->∃rows,Row elSD w (.slice P np cp) rows/\rows.map (·.1)=R.1/\R.1.length=np)/\(R.2≠0->P=none/\np=0/\cp=0)
theorem PathVD.keep {R:List Stk×Int}{w w':World}{P:Option Addr}{np cp:Nat}(h:PathVD R w P np cp)(hb:Below w.heap.size w w'):PathVD R w' P np cp:=
 ⟨fun h0=>by obtain ⟨rows,h1,h2,h3⟩:=h.1 h0;exact⟨rows,h1.keep hb,h2,h3⟩,h.2⟩
theorem rpathV_any {w:World}{V:EV}{E:EnvP}{A:Option Addr}{n c:Nat}{l:List (Ins.Ins×Value)}(h0:EnvOk elGD w V E)(hr:Ins.InRow w (.slice A n c) l)(hF:FnBd E)(hN:E.globs.length<=1000000/\E.locals.length<=1000000/\E.types.length<=1000000)(hln:l.length=n)(hn:n<=200):
  Calls Tryz.prog 22 #[(evV V E),.slice A n c] w fun e w'=>∃P np cp,e= .returned (.tuple #[.slice P np cp,.int .i64 (pathR E (l.map (·.1))).2])/\PathVD (pathR E (l.map (·.1))) w' P np cp/\Below w.heap.size w w':=by
 refine(rpath_any h0 hr hF hN hln hn).mono ?_
 rintro e w' ⟨h,hb⟩
 by_cases hz:(pathR E (l.map (·.1))).2=0
 ·rw[if_pos hz] at h
  obtain⟨v,rows,rfl,h1,h2⟩:=h
  obtain⟨P,cp,rfl,_⟩:=h1.form
  refine⟨P,rows.length,cp,by rw[hz],⟨fun _=>⟨rows,h1,h2,by rw[<- h2,List.length_map]⟩,fun h=>absurd hz h⟩,hb⟩
 ·rw[if_neg hz] at h
  exact⟨none,0,0,h,⟨fun h=>absurd h hz,fun _=>⟨rfl,rfl,rfl⟩⟩,hb⟩
theorem path_len {E:EnvP}{l:List Ins.Ins}{w:World}{P P2:Option Addr}{np cp np2 cp2:Nat}(h:PathV (pathR E l) w P np cp)(h2:PathVD (pathR E l) w P2 np2 cp2)(hl:l.length<=200):np2=np/\np<=201:=by
 by_cases hz:(pathR E l).2=0
 ·obtain ⟨_,_,_,e1⟩:=h.1 hz
  obtain⟨_,_,_,e2⟩:=h2.1 hz
  have:=(path_ok hz).2.2.2
  omega
 ·have e1:=h.2 hz
  have e2:=h2.2 hz
  omega
theorem run_idxDS {g o n c k q:Nat}(W:World)(h:k<n)(hq:o+k*2=q):(Instr.indexAt 63 (.slice (some ⟨g,o,none⟩) n c) (.int .i64 (k:Int))).run Tryz.prog W= .ok (.pointer (some ⟨g,q,none⟩)) W:=by
 have h1:(0:Int)<=(k:Int):=by omega
 have h2:(k:Int)<(n:Int):=by omega
 go_simp
theorem run_lenDS (A:Option Addr)(n c:Nat)(ty:TypeId)(W:World):(Builtin.len_ #[63] ty #[.slice A n c]).run Tryz.prog W= .ok (.int .i64 (n:Int)) W:=by go_simp
theorem run_ldDS {a b:Value}{g q:Nat}{W:World}(h0:W.cell? ⟨g,q,none⟩=some a)(h1:W.cell? ⟨g,q+1,none⟩=some b):(Instr.loadAt 30 (.pointer (some ⟨g,q,none⟩))).run Tryz.prog W= .ok (.agg #[a,b]) W:=by go_simp
theorem body_law (hC:EnvC)(v:Value)(V:EV)(E:EnvP)(l:List (Ins.Ins×Value))(W:World)(hK:Ins.KTab W)(hA:Ins.ATab W)(h0:EnvOk elGD W V E)(hr:Ins.InRow W v l):Calls Tryz.prog 4 #[evV V E,v] W fun e w'=>e= .returned (.bool true)/\Below W.heap.size W w':=by
 obtain⟨⟨A,c,rfl,hlc,hc9,hpl⟩,_⟩:=id hr
 obtain⟨n,hn⟩:∃n,l.length=n:=⟨_,rfl⟩
 rw[hn] at hr hlc ⊢
 obtain⟨g0,off0,hA0⟩:∃g off,n≠0->A=some ⟨g,off,none⟩:=by
  by_cases hl:l = []
  ·exact ⟨0,0,fun h=>absurd (by rw[<- hn,hl];rfl) h⟩
  ·obtain ⟨g,off,e,_⟩:=hpl hl
   exact⟨g,off,fun _=>e⟩
 have HA0:=jq hA0
 clear hA0
 have HN:=jq hn
 have HK:=jq hK
 have HA:=jq hA
 have HE:=jq h0
 have HR:=jq hr
 have HC:=jq hC
 have HB0:=jq (zaB W (oE V E))
 have HX0:=jq (zaC W (oE V E))
 clear hn hK hA h0 hr hC hpl hlc hc9
 show Calls _ _ #[(.agg #[.slice V.Pt V.nt V.ct,.slice V.Pf V.nf V.cf,.int .i64 E.tables,.int .i64 E.mems,.slice V.Pg V.ng V.cg,.slice V.Pl V.nl V.cl,.slice V.Pr V.nr V.cr]),.slice A n c] _ _
 go_enter Tryz.func4,Tryz.ntmps4
 go_wp2_with fail
 refine(awake_any (HK.out.keep HB0.out) (HA.out.keep HB0.out)).mono ?_
 rintro e w1 ⟨rfl,hb⟩
 have HB1:=jq (HB0.out.trans (hb.mono HB0.out.size))
 have HX1:=jq (blk HX0.out hb)
 clear hb HB0 HX0
 obtain⟨x,hx⟩:∃x,W.heap.size=x:=⟨_,rfl⟩
 rw[hx] at HX1
 simp only[hx]
 obtain⟨a0,a1,a2,a3,a4,a5,a6⟩:=cells7b HX1.out
 have xl:x<w1.heap.size:=jl HX1.out
 go_wp2_with fail
 refine(small_any (HE.out.keep HB1.out)).mono ?_
 rintro e w2 ⟨rfl,hb⟩
 have HB2:=jq (HB1.out.trans (hb.mono HB1.out.size))
 have HX2:=jq (blk HX1.out hb)
 clear hb HB1 HX1 a0 a1 a2 a3 a4 a5 a6 xl
 cases hs:smallE E with
 | false=>
  go_wp2_with fail
  exact bodyPost_ret (v:=.bool true) (by simp[results,Tryz.results4,go_sem]) rfl ⟨rfl,HB2.out⟩
 | true=>
  obtain⟨hF,hG,hRl⟩:=small_bd hs
  have HF:=jq hF
  have HG:=jq hG
  have HNN:=jq (small_bdN hs)
  clear hs hF hG hRl
  go_wp2_with fail
  refine(Bod.few_any 120 HN.out (HR.out.keep HB2.out)).mono ?_
  rintro e w3 ⟨⟨bf,rfl,hbf⟩,hww⟩
  subst hww
  cases bf with
  | false=>
   go_wp2_with fail
   exact bodyPost_ret (v:=.bool true) (by simp[results,Tryz.results4,go_sem]) rfl ⟨rfl,HB2.out⟩
  | true=>
   have hfew:=(hbf.1 rfl).1
   rw[HN.out] at hfew
   have hnf:n<=120:=by omega
   clear hfew hbf
   obtain⟨a0,a1,a2,a3,a4,a5,a6⟩:=cells7b HX2.out
   have xl:x<w3.heap.size:=jl HX2.out
   go_wp2_with fail
   refine(HC.out w3 V E (HE.out.keep HB2.out) HG.out).mono ?_
   rintro e w4 ⟨⟨V1,rfl,hev⟩,hb⟩
   have HB4:=jq (HB2.out.trans (hb.mono HB2.out.size))
   have HX4:=jq (blk HX2.out hb)
   have HEV:=jq hev
   clear hb hev HB2 HX2 a0 a1 a2 a3 a4 a5 a6 xl
   go_wp2_with fail
   refine(pathV_any HEV.out (HR.out.keep HB4.out) (HK.out.keep HB4.out) (HA.out.keep HB4.out) HF.out HN.out (by omega)).mono ?_
   rintro e w5 ⟨P,np,cp,rfl,hpv,hb⟩
   have HB5:=jq (HB4.out.trans (hb.mono HB4.out.size))
   have HX5:=jq (blk HX4.out hb)
   have HPV:=jq hpv
   obtain⟨f,hf⟩:∃f,(pathR E (l.map (·.1))).2=f:=⟨_,rfl⟩
   have HFF:=jq hf
   rw[hf]
   clear hb hpv hf HB4 HX4 HEV
   obtain⟨a0,a1,a2,a3,a4,a5,a6⟩:=cells7b HX5.out
   have xl:x<w5.heap.size:=jl HX5.out
   go_wp2_with fail
   refine(rpathV_any (HE.out.keep HB5.out) (HR.out.keep HB5.out) HF.out HNN.out HN.out (by omega)).mono ?_
   rintro e w6 ⟨P2,np2,cp2,rfl,hpv,hb⟩
   have HB6:=jq (HB5.out.trans (hb.mono HB5.out.size))
   have HX6:=jq (blk HX5.out hb)
   obtain⟨hnp,hnp2⟩:=path_len (HPV.out.keep hb) hpv (by rw[List.length_map,HN.out];omega)
   subst hnp
   have HPV:=jq (HPV.out.keep hb)
   have HPD:=jq hpv
   rw[HFF.out]
   clear hb hpv a0 a1 a2 a3 a4 a5 a6 xl HB5 HX5
   obtain⟨bb,hbb⟩:∃b,bodyR E (l.map (·.1))=b:=⟨_,rfl⟩
   have HBB:=jq hbb
   clear hbb
   go_wp2_with fail
   refine Stab.region 72 [.is (.int .i64 f),.is (.int .i64 f),.is (.bool false),.is (.bool false),.is (.slice P np2 cp),.is (.int .i64 (np2:Int)),.is (.slice P2 np2 cp2),.is (.int .i64 (np2:Int)),.is (.bool false),.is (.bool false),.is (.bool false),.is (evV V E),.fits (fun v W=>∃V2,v=evV V2 E/\EnvOk elGP W V2 E),.is (.slice A n c),.is (.int .i64 bb),.is (evV V E),.is (.slice A n c),.is (.int .i64 bb),.is (.bool false),.is (.bool false)] (by kernel_rfl) (by kernel_rfl) rfl rfl ?_ ?_
   ·skip
    with_reducible refine Stab.zaF ?_ ?_ ?_
    ·exact Stab.owes_move rfl rfl rfl
    ·exact trivial
    with_reducible refine Stab.zaF ?_ ?_ ?_
    ·exact Stab.owes_move rfl rfl rfl
    ·exact trivial
    with_reducible refine Stab.zaF ?_ ?_ ?_
    ·exact Stab.owes_bin rfl rfl rfl (fun W=>Stab.run_neE _ _ f f false (by simp) W) rfl
    ·exact trivial
    with_reducible refine Stab.zaF ?_ ?_ ?_
    ·exact Stab.owes_move rfl rfl rfl
    ·exact trivial
    with_reducible refine Stab.zaF ?_ ?_ ?_
    ·exact Stab.owes_move rfl rfl rfl
    ·exact trivial
    with_reducible refine Stab.zaF ?_ ?_ ?_
    ·exact Stab.owes_length rfl rfl (fun W=>run_lenSt _ _ _ _ W) rfl
    ·exact trivial
    with_reducible refine Stab.zaF ?_ ?_ ?_
    ·exact Stab.owes_move rfl rfl rfl
    ·exact trivial
    with_reducible refine Stab.zaF ?_ ?_ ?_
    ·exact Stab.owes_length rfl rfl (fun W=>run_lenDS _ _ _ _ W) rfl
    ·exact trivial
    with_reducible refine Stab.zaF ?_ ?_ ?_
    ·exact Stab.owes_bin rfl rfl rfl (fun W=>Stab.run_neI _ _ (np2:Int) (np2:Int) false (by simp) W) rfl
    ·exact trivial
    with_reducible refine Stab.zaF ?_ ?_ ?_
    ·exact Stab.owes_pick rfl rfl rfl rfl
    ·exact trivial
    with_reducible refine Stab.zaF ?_ ?_ ?_
    ·exact Stab.owes_move rfl rfl rfl
    ·exact trivial
    with_reducible refine Stab.zaF ?_ ?_ ?_
    ·exact Stab.owes_load rfl (fun v W hb hv=>by subst hv;exact run_ldEn (blk HX6.out hb)) rfl
    ·exact trivial
    with_reducible refine Stab.zaF ?_ ?_ ?_
    ·(refine Stab.owes_call Tryz.func13 (by kernel_rfl) (by kernel_rfl) rfl (fun vs W hb hall=>?_) rfl;obtain ⟨_,_,rfl,rfl,rfl⟩:=hall;refine (HC.out W V E (HE.out.keep (HB6.out.trans (hb.mono HB6.out.size))) HG.out).mono ?_;rintro e w2 ⟨⟨V2,rfl,hev⟩,hb2⟩;exact⟨_,rfl,hb2,V2,rfl,hev⟩)
    ·exact (fun v w w' h hb=>by obtain ⟨V2,h1,h2⟩:=h;exact⟨V2,h1,h2.keep hb⟩)
    with_reducible refine Stab.zaF ?_ ?_ ?_
    ·exact Stab.owes_move rfl rfl rfl
    ·exact trivial
    with_reducible refine Stab.zaF ?_ ?_ ?_
    ·(refine Stab.owes_call Tryz.func23 (by kernel_rfl) (by kernel_rfl) rfl (fun vs W hb hall=>?_) rfl;obtain ⟨_,_,rfl,⟨V2,rfl,hev⟩,_,_,rfl,rfl,rfl⟩:=hall;have hbw:=HB6.out.trans (hb.mono HB6.out.size);refine (body_any hev (HR.out.keep hbw) (HK.out.keep hbw) (HA.out.keep hbw) HF.out HN.out (by omega)).mono ?_;rintro e w2 ⟨rfl,hb2⟩;rw[HBB.out];exact⟨_,rfl,hb2,rfl⟩)
    ·exact trivial
    with_reducible refine Stab.zaF ?_ ?_ ?_
    ·exact Stab.owes_load rfl (fun v W hb hv=>by subst hv;exact run_ldEn (blk HX6.out hb)) rfl
    ·exact trivial
    with_reducible refine Stab.zaF ?_ ?_ ?_
    ·exact Stab.owes_move rfl rfl rfl
    ·exact trivial
    with_reducible refine Stab.zaF ?_ ?_ ?_
    ·(refine Stab.owes_call Tryz.func24 (by kernel_rfl) (by kernel_rfl) rfl (fun vs W hb hall=>?_) rfl;obtain ⟨_,_,rfl,rfl,_,_,rfl,rfl,rfl⟩:=hall;have hbw:=HB6.out.trans (hb.mono HB6.out.size);refine (rbody_any (HE.out.keep hbw) (HR.out.keep hbw) HF.out HNN.out HN.out (by omega)).mono ?_;rintro e w2 ⟨rfl,hb2⟩;rw[HBB.out];exact⟨_,rfl,hb2,rfl⟩)
    ·exact trivial
    with_reducible refine Stab.zaF ?_ ?_ ?_
    ·exact Stab.owes_bin rfl rfl rfl (fun W=>Stab.run_neE _ _ bb bb false (by simp) W) rfl
    ·exact trivial
    with_reducible refine Stab.zaF ?_ ?_ ?_
    ·exact Stab.owes_pick rfl rfl rfl rfl
    ·exact trivial
    exact Stab.steps_nil
   intro z1 w7 hb _
   simp only[Act.put,List.setIfInBounds_toArray,List.set_cons_succ,List.set_cons_zero]
   have HW7:=jq (HB6.out.trans (hb.mono HB6.out.size))
   have HPV:=jq (HPV.out.keep hb)
   have HPD:=jq (HPD.out.keep hb)
   have HNP:=jq hnp2
   clear hb HB6 HX6 hnp2
   go_wp2_with fail
   go_loopw [10] (fun i' wr=>∃k:Nat,i'= .int .i64 (k:Int)/\k<=np2/\Below w7.heap.size w7 wr) (fun i' _=>np2 - (intOf i').toNat)
   case atStart=>exact ⟨0,by go_num,Nat.zero_le _,Below.refl _ _⟩
   case round=>
    obtain⟨k,rfl,hi,hbe⟩:=hrel
    have HBe:=jq hbe
    clear hbe
    by_cases hlt:k<np2
    ·have hz:f=0:=by
      rcases Decidable.em (f=0) with h | h
      ·exact h
      ·exact absurd (HPV.out.2 (by rw[HFF.out];exact h)).2.1 (by omega)
     obtain⟨rows,hrow,hmap,hlen⟩:=HPV.out.1 (HFF.out.trans hz)
     obtain⟨rows2,hrow2,hmap2,_⟩:=HPD.out.1 (HFF.out.trans hz)
     obtain⟨ak,hak⟩:∃a,(pathR E (l.map (·.1))).1[k]? = some a:=⟨_,List.getElem?_eq_getElem (by omega)⟩
     have HCS:Hid (ak.cs.length<=400000):=jq (by have:=(path_bd HF.out (by rw[List.length_map,HN.out];omega) (HFF.out.trans hz) (List.mem_of_getElem? hak) ak rfl).2;omega)
     obtain⟨gp,offp,Pv,cv,Pc,cc,lc,rfl,hgp,s0,s1,hrv,hrc,hlc⟩:=stk_at (hrow.keep HBe.out) hmap hak
     obtain⟨gq,offq,Pv',cv',Pc',cc',lc',rfl,hgq,u0,u1,hrv',hrc',hlc'⟩:=stk_atD (hrow2.keep HBe.out) hmap2 hak
     have HSP:=jq (stk_is hrv hrc hlc)
     have HSD:=jq (stk_isD hrv' hrc' hlc')
     obtain⟨qp,hqp⟩:∃q,offp+k*2=q:=⟨_,rfl⟩
     obtain⟨qq,hqq⟩:∃q,offq+k*2=q:=⟨_,rfl⟩
     rw[hqp] at s0 s1
     rw[hqq] at u0 u1
     generalize ak.vals.length=nv at *
     obtain⟨nc,hnc⟩:∃n,ak.cs.length=n:=⟨_,rfl⟩
     rw[hnc] at s1 u1 HSP HSD
     have i1:(0:Int)<=(k:Int):=by omega
     have i2:(k:Int)<(np2:Int):=by omega
     have i3:decide ((k:Int)<(np2:Int))=true:=decide_eq_true i2
     have hw1:IntKind.i64.wrap ((k:Int)+1)=(k:Int)+1:=IntWalk.i64_in _ (by have:=HNP.out;omega)
     clear hz hrow hmap hlen hrow2 hmap2 hak hrv hrc hlc hrv' hrc' hlc' hnc
     go_wp2_with fail
     refine Stab.region 72 [.is (.slice (some ⟨gp,offp,none⟩) np2 cp),.is (.int .i64 (k:Int)),.is (.pointer (some ⟨gp,qp,none⟩)),.is (.agg #[.slice Pv nv cv,.slice Pc nc cc]),.fits (fun v W=>StIs elD W v ak),.is (.slice (some ⟨gq,offq,none⟩) np2 cp2),.is (.int .i64 (k:Int)),.is (.pointer (some ⟨gq,qq,none⟩)),.is (.agg #[.slice Pv' nv cv',.slice Pc' nc cc']),.is (.bool true),.is (.bool false)] (by kernel_rfl) (by kernel_rfl) rfl rfl ?_ ?_
     ·skip
      with_reducible refine Stab.zaF ?_ ?_ ?_
      ·exact Stab.owes_move rfl rfl rfl
      ·exact trivial
      with_reducible refine Stab.zaF ?_ ?_ ?_
      ·exact Stab.owes_move rfl rfl rfl
      ·exact trivial
      with_reducible refine Stab.zaF ?_ ?_ ?_
      ·exact Stab.owes_indexAt rfl rfl rfl (fun W=>run_idxSt W hlt hqp) rfl
      ·exact trivial
      with_reducible refine Stab.zaF ?_ ?_ ?_
      ·exact Stab.owes_load rfl (fun v W hb hv=>by subst hv;exact run_ldSt ((hb.cell (p:=⟨gp,qp,none⟩) hgp).trans s0) ((hb.cell (p:=⟨gp,qp+1,none⟩) hgp).trans s1)) rfl
      ·exact trivial
      with_reducible refine Stab.zaF ?_ ?_ ?_
      ·(refine Stab.owes_call Tryz.func19 (by kernel_rfl) (by kernel_rfl) rfl (fun vs W hb hall=>?_) rfl;obtain ⟨_,_,rfl,rfl,rfl⟩:=hall;refine (theirs10_any (HSP.out.keep hb) HCS.out).mono ?_;rintro e w2 ⟨⟨P',n',c',Q',m',d',rfl,hv⟩,hb2⟩;exact⟨_,rfl,hb2,hv⟩)
      ·exact fun v w w' h hb=>StIs.keep h hb
      with_reducible refine Stab.zaF ?_ ?_ ?_
      ·exact Stab.owes_move rfl rfl rfl
      ·exact trivial
      with_reducible refine Stab.zaF ?_ ?_ ?_
      ·exact Stab.owes_move rfl rfl rfl
      ·exact trivial
      with_reducible refine Stab.zaF ?_ ?_ ?_
      ·exact Stab.owes_indexAt rfl rfl rfl (fun W=>run_idxDS W hlt hqq) rfl
      ·exact trivial
      with_reducible refine Stab.zaF ?_ ?_ ?_
      ·exact Stab.owes_load rfl (fun v W hb hv=>by subst hv;exact run_ldDS ((hb.cell (p:=⟨gq,qq,none⟩) hgq).trans u0) ((hb.cell (p:=⟨gq,qq+1,none⟩) hgq).trans u1)) rfl
      ·exact trivial
      with_reducible refine Stab.zaF ?_ ?_ ?_
      ·(refine Stab.owes_call Tryz.func18 (by kernel_rfl) (by kernel_rfl) rfl (fun vs W hb hall=>?_) rfl;obtain ⟨v1,_,rfl,h1,v2,_,rfl,h2,rfl⟩:=hall;have h1:StIs elD W v1 ak:=h1;have h2:=(show v2=_ from h2);subst h2;refine (same_yes h1 (HSD.out.keep hb) (by have:=HCS.out;omega)).mono ?_;rintro e w2 ⟨rfl,hb2⟩;exact⟨_,rfl,hb2,rfl⟩)
      ·exact trivial
      with_reducible refine Stab.zaF ?_ ?_ ?_
      ·exact Stab.owes_not rfl rfl (fun W=>Stab.run_not true W) rfl
      ·exact trivial
      exact Stab.steps_nil
     intro z2 w8 hb _
     simp only[Act.put,List.setIfInBounds_toArray,List.set_cons_succ,List.set_cons_zero]
     have HB8:=jq (HBe.out.trans (hb.mono HBe.out.size))
     clear hb s0 s1 u0 u1 hgp hgq
     go_wp2_with fail
     go_roundw
     case rel=>exact ⟨k+1,by go_num,hlt,HB8.out⟩
     case measure=>simp[intOf];omega
    ·obtain rfl:k=np2:=by omega
     have i3:decide ((k:Int)<(k:Int))=false:=decide_eq_false (by omega)
     go_wp2_with fail
     have HWF:=jq (HW7.out.trans (HBe.out.mono HW7.out.size))
     exact bodyPost_ret (v:=.bool true) (by simp[results,Tryz.results4,go_sem]) rfl ⟨rfl,by first | exact HWF.out | (rw[<- hx];exact HWF.out)⟩
end Go.Proofs.YtlappkflnlbfcaaGreatDoor.Chk
