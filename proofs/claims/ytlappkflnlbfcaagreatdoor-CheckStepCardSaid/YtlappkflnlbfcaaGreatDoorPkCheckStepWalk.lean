import Derived.Test.YtlappkflnlbfcaaGreatDoorPkChkWk
import Derived.Test.YtlappkflnlbfcaaGreatDoorPkChkEnvC
import Derived.Test.YtlappkflnlbfcaaGreatDoorPkChkRType
import Derived.Test.YtlappkflnlbfcaaGreatDoorPkStkRLabel
import Derived.Test.YtlappkflnlbfcaaGreatDoorPkStkFew10
import Derived.Test.YtlappkflnlbfcaaGreatDoorPkStkOurs10
import Derived.Test.YtlappkflnlbfcaaGreatDoorPkStabM
namespace Go.Proofs.YtlappkflnlbfcaaGreatDoor.Chk
open Lib renaming hid → jq
open Go.RowKit Row9 Stk
set_option maxRecDepth 100000
set_option maxHeartbeats 8000000
set_option linter.unusedVariables false
theorem run_fFn0 (g q:Nat)(W:World):(Instr.fieldAt 51 (.pointer (some ⟨g,q,none⟩)) 0).run Tryz.prog W= .ok (.pointer (some ⟨g,q,none⟩)) W:=by go_simp
theorem run_fFn1 (g q:Nat)(W:World):(Instr.fieldAt 51 (.pointer (some ⟨g,q,none⟩)) 1).run Tryz.prog W= .ok (.pointer (some ⟨g,q+1,none⟩)) W:=by go_simp
theorem run_ldI5 {a b c d e:Value}{x:Nat}{W:World}(h:W.heap[x]? = some (.cells #[a,b,c,d,e] 33 (0,0))):(Instr.loadAt 33 (.pointer (some ⟨x,0,none⟩))).run Tryz.prog W= .ok (.agg #[a,b,c,d,e]) W:=
 run_ldIn (zaA h 0).1 (zaA h 1).1 (zaA h 2).1 (zaA h 3).1 (zaA h 4).1
theorem run_eqBo (x y:Operand)(a b:Bool)(r:Bool)(h:(a == b)=r)(W:World):(do eqGuard BinOp.eql 4 x y (.bool a) (.bool b);binOp BinOp.eql 4 (.bool a) (.bool b):Sem Value).run Tryz.prog W= .ok (.bool r) W:=by
 subst h;go_simp
theorem step_law (hC:EnvC)(V:EV)(E:EnvP)(v:Value)(s:Stk)(i:Ins.Ins)(lab:Value)(f:Int)(W:World)(hK:Ins.KTab W)(hA:Ins.ATab W)(h0:EnvOk elGD W V E)(hs:StIs elD W v s)(hl:Ins.SlI W lab i.L)(hu:Ints.u64R i.K):
  Calls Tryz.prog 3 #[evV V E,v,.agg #[.int .i64 i.op,.int .i64 i.A,.int .i64 i.B,.int .u64 i.K,lab],.int .i64 f] W fun e w'=>e= .returned (.bool true)/\Below W.heap.size W w':=by
 obtain⟨P,np,cp,Q,m,d,rfl⟩:=StIs.form (T:=elD) hs
 obtain⟨PL,cL,hlab,_⟩:=id hl
 obtain⟨op,iA,iB,iK,iL⟩:=i
 simp only at hl hu hlab ⊢
 obtain⟨nL,hnL⟩:∃n,iL.length=n:=⟨_,rfl⟩
 rw[hnL] at hlab
 subst hlab
 have HU:=jq hu
 have HL:=jq hl
 have HK:=jq hK
 have HA:=jq hA
 have HE:=jq h0
 have HS:=jq hs
 have HC:=jq hC
 have HB:=jq (below3 W (.cells #[.slice V.Pt V.nt V.ct,.slice V.Pf V.nf V.cf,.int .i64 E.tables,.int .i64 E.mems,.slice V.Pg V.ng V.cg,.slice V.Pl V.nl V.cl,.slice V.Pr V.nr V.cr] 27) (.cells #[.slice P np cp,.slice Q m d] 30) (.cells #[.int .i64 op,.int .i64 iA,.int .i64 iB,.int .u64 iK,.slice PL nL cL] 33))
 have HX:=jq (blk (blk (zaC W (.cells #[.slice V.Pt V.nt V.ct,.slice V.Pf V.nf V.cf,.int .i64 E.tables,.int .i64 E.mems,.slice V.Pg V.ng V.cg,.slice V.Pl V.nl V.cl,.slice V.Pr V.nr V.cr] 27)) (zaB _ (.cells #[.slice P np cp,.slice Q m d] 30))) (zaB _ (.cells #[.int .i64 op,.int .i64 iA,.int .i64 iB,.int .u64 iK,.slice PL nL cL] 33)))
 have HY:=jq (blk (zaC (W.alloc (.cells #[.slice V.Pt V.nt V.ct,.slice V.Pf V.nf V.cf,.int .i64 E.tables,.int .i64 E.mems,.slice V.Pg V.ng V.cg,.slice V.Pl V.nl V.cl,.slice V.Pr V.nr V.cr] 27)) (.cells #[.slice P np cp,.slice Q m d] 30)) (zaB _ (.cells #[.int .i64 op,.int .i64 iA,.int .i64 iB,.int .u64 iK,.slice PL nL cL] 33)))
 have HZ:=jq (zaC ((W.alloc (.cells #[.slice V.Pt V.nt V.ct,.slice V.Pf V.nf V.cf,.int .i64 E.tables,.int .i64 E.mems,.slice V.Pg V.ng V.cg,.slice V.Pl V.nl V.cl,.slice V.Pr V.nr V.cr] 27)).alloc (.cells #[.slice P np cp,.slice Q m d] 30)) (.cells #[.int .i64 op,.int .i64 iA,.int .i64 iB,.int .u64 iK,.slice PL nL cL] 33))
 simp only[zaD] at HY HZ
 clear hK hA h0 hs hC hu hl hnL
 show Calls _ _ #[(.agg #[.slice V.Pt V.nt V.ct,.slice V.Pf V.nf V.cf,.int .i64 E.tables,.int .i64 E.mems,.slice V.Pg V.ng V.cg,.slice V.Pl V.nl V.cl,.slice V.Pr V.nr V.cr]),.agg #[.slice P np cp,.slice Q m d],(.agg #[.int .i64 op,.int .i64 iA,.int .i64 iB,.int .u64 iK,.slice PL nL cL]),.int .i64 f] _ _
 go_enter Tryz.func3,Tryz.ntmps3
 go_wp2_with fail
 generalize ((W.alloc (.cells #[.slice V.Pt V.nt V.ct,.slice V.Pf V.nf V.cf,.int .i64 E.tables,.int .i64 E.mems,.slice V.Pg V.ng V.cg,.slice V.Pl V.nl V.cl,.slice V.Pr V.nr V.cr] 27)).alloc (.cells #[.slice P np cp,.slice Q m d] 30)).alloc (.cells #[.int .i64 op,.int .i64 iA,.int .i64 iB,.int .u64 iK,.slice PL nL cL] 33)=w0 at *
 obtain⟨x,hx⟩:∃x,W.heap.size=x:=⟨_,rfl⟩
 obtain⟨y,hy⟩:∃y,x+1=y:=⟨_,rfl⟩
 obtain⟨z,hz⟩:∃z,y+1=z:=⟨_,rfl⟩
 rw[hx] at HX HY HZ
 rw[hy] at HY HZ
 rw[hz] at HZ
 simp only[hx]
 simp only[hy]
 simp only[hz]
 clear hy hz
 refine(awake_any (HK.out.keep HB.out) (HA.out.keep HB.out)).mono ?_
 rintro e w1 ⟨rfl,hb⟩
 have HX:=jq (blk HX.out hb)
 have HY:=jq (blk HY.out hb)
 have HZ:=jq (blk HZ.out hb)
 have HB:=jq (HB.out.trans (hb.mono HB.out.size))
 clear hb
 obtain⟨a0,a1,a2,a3,a4,a5,a6⟩:=cells7b HX.out
 have xl:x<w1.heap.size:=jl HX.out
 go_wp2_with fail
 refine(small_any (HE.out.keep HB.out)).mono ?_
 rintro e w2 ⟨rfl,hb⟩
 clear a0 a1 a2 a3 a4 a5 a6 xl
 have HX:=jq (blk HX.out hb)
 have HY:=jq (blk HY.out hb)
 have HZ:=jq (blk HZ.out hb)
 have HB:=jq (HB.out.trans (hb.mono HB.out.size))
 clear hb
 cases hs:smallE E with
 | false=>
  go_wp2_with fail
  exact bodyPost_ret (v:=.bool true) (by simp[results,Tryz.results3,go_sem]) rfl ⟨rfl,by first | exact HB.out | (rw[<- hx];exact HB.out)⟩
 | true=>
  obtain⟨hF,hG,hRl⟩:=small_bd hs
  have HF:=jq hF
  have HG:=jq hG
  clear hs hF hG hRl
  obtain⟨b0,b1⟩:=zaH HY.out
  have yl:y<w2.heap.size:=jl HY.out
  go_wp2_with fail
  refine(few10_any (HS.out.keep HB.out)).mono ?_
  rintro e w3 ⟨rfl,hb⟩
  clear b0 b1 yl
  have HX:=jq (blk HX.out hb)
  have HY:=jq (blk HY.out hb)
  have HZ:=jq (blk HZ.out hb)
  have HB:=jq (HB.out.trans (hb.mono HB.out.size))
  clear hb
  cases hs:fewS s with
  | false=>
   go_wp2_with fail
   exact bodyPost_ret (v:=.bool true) (by simp[results,Tryz.results3,go_sem]) rfl ⟨rfl,by first | exact HB.out | (rw[<- hx];exact HB.out)⟩
  | true=>
   have HM:=jq (few10_le hs)
   clear hs
   have z4:w3.cell? ⟨z,4,none⟩=some (.slice PL nL cL):=(zaA HZ.out 4).1
   have zl:z<w3.heap.size:=jl HZ.out
   by_cases h70:70<nL
   ·have t1:decide ((70:Int)<(nL:Int))=true:=decide_eq_true (by omega)
    have t2:decide (70<nL)=true:=decide_eq_true h70
    go_wp2_with fail
    exact bodyPost_ret (v:=.bool true) (by simp[results,Tryz.results3,go_sem]) rfl ⟨rfl,by first | exact HB.out | (rw[<- hx];exact HB.out)⟩
   ·have t1:decide ((70:Int)<(nL:Int))=false:=decide_eq_false (by omega)
    have t2:decide (70<nL)=false:=decide_eq_false h70
    go_wp2_with fail
    clear t1 t2 h70 z4 zl
    obtain⟨R,hR⟩:∃R,stOf (stepR E ⟨op,iA,iB,iK,iL⟩ s)=R:=⟨_,rfl⟩
    obtain⟨g,hg⟩:∃g,codeOf (stepR E ⟨op,iA,iB,iK,iL⟩ s)=g:=⟨_,rfl⟩
    have HBD0:Hid (Bd (.ok s) 300):=fun t ht=>by injection ht with ht;subst ht;have:=HM.out;exact⟨by omega,by omega⟩
    have HRL:Hid (R.cs.length<=400000):=by rw[<- hR];exact step_le HF.out HBD0.out
    have HBD:Hid (Bd (.ok s) 300000):=jq (HBD0.out.mono (by omega))
    have HR:=jq hR
    have HGG:=jq hg
    clear hR hg
    have HSZ:Hid (W.heap.size<=w3.heap.size):=HB.out.size
    have HLT:Hid (x<w3.heap.size/\y<w3.heap.size/\z<w3.heap.size):=⟨jl HX.out,jl HY.out,jl HZ.out⟩
    refine Stab.region_mix 10 98 8 _ _ _ [.is (.agg #[.slice V.Pt V.nt V.ct,.slice V.Pf V.nf V.cf,.int .i64 E.tables,.int .i64 E.mems,.slice V.Pg V.ng V.cg,.slice V.Pl V.nl V.cl,.slice V.Pr V.nr V.cr]),.fits (fun v W=>∃V2,v=evV V2 E/\EnvOk elGP W V2 E),.is (.agg #[.slice P np cp,.slice Q m d]),.fits (fun v W=>∃Pb nb cb Qb mb db,v= .agg #[.slice Pb nb cb,.slice Qb mb db]/\StIs elP W (.agg #[.slice Pb nb cb,.slice Qb mb db]) s),.is (.agg #[.int .i64 op,.int .i64 iA,.int .i64 iB,.int .u64 iK,.slice PL nL cL]),.fits (fun v W=>∃Pb nb cb Qb mb db,v= .tuple #[.agg #[.slice Pb nb cb,.slice Qb mb db],.int .i64 g]/\StIs elP W (.agg #[.slice Pb nb cb,.slice Qb mb db]) R),.fits (fun v W=>∃Pb nb cb Qb mb db,v= .tuple #[.agg #[.slice Pb nb cb,.slice Qb mb db],.int .i64 g]/\StIs elP W (.agg #[.slice Pb nb cb,.slice Qb mb db]) R),.fits (fun v W=>∃Pb nb cb Qb mb db,v= .agg #[.slice Pb nb cb,.slice Qb mb db]/\StIs elP W (.agg #[.slice Pb nb cb,.slice Qb mb db]) R),.is (.int .i64 g),.fits (fun v W=>∃gs,v= .pointer (some ⟨gs,0,none⟩)/\w3.heap.size<=gs/\W.heap[gs]? = some (.cells #[.slice none 0 0,.slice none 0 0] 39 (0,0)))] (by kernel_rfl) (by kernel_rfl) (by kernel_rfl) (by kernel_rfl) rfl rfl rfl rfl rfl ?_ ?_ ?_
    ·simp only[List.take_succ_cons,List.take_zero]
     with_reducible refine Stab.zaF ?_ ?_ ?_
     ·exact Stab.owes_load rfl (fun v W hb hv=>by subst hv;exact run_ldEn (blk HX.out hb)) rfl
     ·exact trivial
     with_reducible refine Stab.zaF ?_ ?_ ?_
     ·(refine Stab.owes_call Tryz.func13 (by kernel_rfl) (by kernel_rfl) rfl (fun vs W hb hall=>?_) rfl;obtain ⟨_,_,rfl,rfl,rfl⟩:=hall;refine (HC.out W V E (HE.out.keep (HB.out.trans (hb.mono HB.out.size))) HG.out).mono ?_;rintro e w2 ⟨⟨V2,rfl,hev⟩,hb2⟩;exact⟨_,rfl,hb2,V2,rfl,hev⟩)
     ·exact (fun v w w' h hb=>by obtain ⟨V2,h1,h2⟩:=h;exact⟨V2,h1,h2.keep hb⟩)
     with_reducible refine Stab.zaF ?_ ?_ ?_
     ·exact Stab.owes_load rfl (fun v W hb hv=>by subst hv;exact ld_stD (blk HY.out hb)) rfl
     ·exact trivial
     with_reducible refine Stab.zaF ?_ ?_ ?_
     ·(refine Stab.owes_call Tryz.func14 (by kernel_rfl) (by kernel_rfl) rfl (fun vs W hb hall=>?_) rfl;obtain ⟨_,_,rfl,rfl,rfl⟩:=hall;refine (ours10_any (HS.out.keep (HB.out.trans (hb.mono HB.out.size))) (by have:=HM.out.2.1;omega)).mono ?_;rintro e w2 ⟨⟨Pb,nb,cb,Qb,mb,db,rfl,hst⟩,hb2⟩;exact⟨_,rfl,hb2,Pb,nb,cb,Qb,mb,db,rfl,hst⟩)
     ·exact (fun v w w' h hb=>by obtain ⟨Pb,nb,cb,Qb,mb,db,h1,h2⟩:=h;exact⟨Pb,nb,cb,Qb,mb,db,h1,h2.keep hb⟩)
     with_reducible refine Stab.zaF ?_ ?_ ?_
     ·exact Stab.owes_load rfl (fun v W hb hv=>by subst hv;exact run_ldI5 (blk HZ.out hb)) rfl
     ·exact trivial
     with_reducible refine Stab.zaF ?_ ?_ ?_
     ·(refine Stab.owes_call Tryz.func12 (by kernel_rfl) (by kernel_rfl) rfl (fun vs W hb hall=>?_) rfl;obtain ⟨_,_,rfl,⟨V2,rfl,hev⟩,_,_,rfl,⟨Pb,nb,cb,Qb,mb,db,rfl,hst⟩,_,_,rfl,rfl,rfl⟩:=hall;have hbw:=HB.out.trans (hb.mono HB.out.size);refine (step_any (i:=⟨op,iA,iB,iK,iL⟩) hev hst HBD.out (HK.out.keep hbw) (HA.out.keep hbw) HF.out (HL.out.keep hbw) HU.out).mono ?_;intro e w2 h;obtain ⟨Pb,nb,cb,Qb,mb,db,rfl,h2,hb2⟩:=stepE h;rw[HR.out] at h2;rw[HGG.out];exact⟨_,rfl,hb2,Pb,nb,cb,Qb,mb,db,rfl,h2⟩)
     ·exact (fun v w w' h hb=>by obtain ⟨Pb,nb,cb,Qb,mb,db,h1,h2⟩:=h;exact⟨Pb,nb,cb,Qb,mb,db,h1,h2.keep hb⟩)
     with_reducible refine Stab.zaF ?_ ?_ ?_
     ·exact Stab.owes_move rfl rfl rfl
     ·exact (fun v w w' h hb=>by obtain ⟨Pb,nb,cb,Qb,mb,db,h1,h2⟩:=h;exact⟨Pb,nb,cb,Qb,mb,db,h1,h2.keep hb⟩)
     with_reducible refine Stab.zaF ?_ ?_ ?_
     ·exact owes_extF rfl rfl (fun v W h=>by obtain ⟨Pb,nb,cb,Qb,mb,db,rfl,h2⟩:=h;exact⟨_,run_ext0 W,Pb,nb,cb,Qb,mb,db,rfl,h2⟩) rfl
     ·exact (fun v w w' h hb=>by obtain ⟨Pb,nb,cb,Qb,mb,db,h1,h2⟩:=h;exact⟨Pb,nb,cb,Qb,mb,db,h1,h2.keep hb⟩)
     with_reducible refine Stab.zaF ?_ ?_ ?_
     ·exact owes_extI rfl rfl (fun v W h=>by obtain ⟨Pb,nb,cb,Qb,mb,db,rfl,h2⟩:=h;exact run_ext1 W) rfl
     ·exact trivial
     with_reducible refine Stab.zaF ?_ ?_ ?_
     ·(refine Stab.owes_alloc (t:=39) rfl (fun W hb=>?_) rfl;go_simp;exact⟨zaB W _,W.heap.size,rfl,hb.size,zaC W _⟩)
     ·exact (fun v w w' h hb=>by obtain ⟨gs,h1,h2,h3⟩:=h;exact⟨gs,h1,h2,blk h3 hb⟩)
     exact Stab.steps_nil
    all_goals (
     simp only[List.take_succ_cons,List.take_zero,List.eraseIdx_cons_succ,List.eraseIdx_cons_zero]
     intro z1 z2 z3 z4 z5 z6 w4 hb hI
     obtain⟨⟨xa,rfl,hgs,hgc⟩,⟨P4,n4,c4,Q4,m4,d4,rfl,hsb⟩,⟨Pb1,nb1,cb1,Qb1,mb1,db1,rfl,_⟩,_⟩:=hI
     simp only[Act.put,List.setIfInBounds_toArray,List.set_cons_succ,List.set_cons_zero]
     have HB0:=HB
     have HX:=jq (blk HX.out hb)
     have HY:=jq (blk HY.out hb)
     have HZ:=jq (blk HZ.out hb)
     have HB:=jq (HB.out.trans (hb.mono HB.out.size))
     clear hb
     have HGC:=jq hgc
     have HGS:Hid (W.heap.size<=xa):=jq (by have:=HSZ.out;omega)
     have HSB:=jq hsb
     obtain⟨z0,z1⟩:=zaH hgc
     have zp0:=(zaA hgc 0).2
     have zp1:=(zaA hgc 1).2
     have zl:xa<w4.heap.size:=jl hgc
     have xl:x<w4.heap.size:=jl HX.out
     have yl:y<w4.heap.size:=jl HY.out
     have wl:z<w4.heap.size:=jl HZ.out
     have nx:x≠xa:=by have:=HLT.out;omega
     have ny:y≠xa:=by have:=HLT.out;omega
     have nz:z≠xa:=by have:=HLT.out;omega
     obtain⟨a0,a1,a2,a3,a4,a5,a6⟩:=cells7b HX.out
     obtain⟨b0,b1⟩:=zaH HY.out
     obtain⟨c0,c1,c2,c3,c5⟩:=cells5i HZ.out
     clear hgs hgc hsb
     go_wp2_with fail
     clear a0 a1 a2 a3 a4 a5 a6 b0 b1 c0 c1 c2 c3 c5 z0 z1 zp0 zp1 zl
     have hbt:But xa w4 ((w4.setCell ⟨xa,0,none⟩ (.slice P4 n4 c4)).setCell ⟨xa,1,none⟩ (.slice Q4 m4 d4)):=((But.refl xa w4).setCell 0 _).setCell 1 _
     have HSA:Hid (StIs elP ((w4.setCell ⟨xa,0,none⟩ (.slice P4 n4 c4)).setCell ⟨xa,1,none⟩ (.slice Q4 m4 d4)) (.agg #[.slice P4 n4 c4,.slice Q4 m4 d4]) R):=jq (StIs.apart (e:=72) (hi:=infoP) HSB.out (nobb_of HGC.out fun u hu=>by simp only[List.mem_cons,List.not_mem_nil,or_false] at hu;rcases hu with rfl | rfl <;> exact ⟨fun x=>by simp,fun b=>by simp⟩) hbt)
     have HA4:Hid (((w4.setCell ⟨xa,0,none⟩ (.slice P4 n4 c4)).setCell ⟨xa,1,none⟩ (.slice Q4 m4 d4)).heap[xa]? = some (.cells #[.slice P4 n4 c4,.slice Q4 m4 d4] 39 (0,0))):=by
      show _=_
      rw[zaE (zaE HGC.out _)]
      rfl
     have HX:=jq ((hbt.block x xl nx).trans HX.out)
     have HY:=jq ((hbt.block y yl ny).trans HY.out)
     have HZ:=jq ((hbt.block z wl nz).trans HZ.out)
     have HB:=jq ((HB.out.setCell (p:=⟨xa,0,none⟩) HGS.out (.slice P4 n4 c4)).setCell (p:=⟨xa,1,none⟩) HGS.out (.slice Q4 m4 d4))
     clear hbt xl yl wl nx ny nz HGC HSB HGS HB0
     generalize ((w4.setCell ⟨xa,0,none⟩ (.slice P4 n4 c4)).setCell ⟨xa,1,none⟩ (.slice Q4 m4 d4))=w5 at *
     refine(rstep_any (i:=⟨op,iA,iB,iK,iL⟩) (HE.out.keep HB.out) (HS.out.keep HB.out) (by have:=HM.out;exact⟨by omega,by omega⟩) HF.out (HL.out.keep HB.out)).mono ?_
     intro e w6 h
     obtain⟨P5,n5,c5,Q5,m5,d5,rfl,h2,hb⟩:=rstepE h
     rw[HR.out] at h2
     rw[HGG.out]
     clear h
     have HT:=jq (hb.trans ((zaB w6 (.cells #[.slice P5 n5 c5,.slice Q5 m5 d5] 30)).mono hb.size))
     have HX:=jq (blk HX.out HT.out)
     have HY:=jq (blk HY.out HT.out)
     have HZ:=jq (blk HZ.out HT.out)
     have HA4:=jq (blk HA4.out HT.out)
     have HSA:=jq (HSA.out.keep HT.out)
     have HB:=jq (HB.out.trans (HT.out.mono HB.out.size))
     have HSD:=jq (h2.keep (zaB w6 (.cells #[.slice P5 n5 c5,.slice Q5 m5 d5] 30)))
     have HD5:=jq (zaC w6 (.cells #[.slice P5 n5 c5,.slice Q5 m5 d5] 30))
     clear hb HT h2
     obtain⟨a0,a1,a2,a3,a4,a5,a6⟩:=cells7b HX.out
     have xl:=jl HX.out
     go_wp2_with fail
     clear a0 a1 a2 a3 a4 a5 a6 xl
     generalize w6.alloc (.cells #[.slice P5 n5 c5,.slice Q5 m5 d5] 30)=v6 at *
     obtain⟨xd,hq⟩:∃q,w6.heap.size=q:=⟨_,rfl⟩
     rw[hq] at HD5
     simp only[hq]
     clear hq
     obtain⟨ok,hok⟩:∃b,(typeE E f).isSome=b:=⟨_,rfl⟩
     obtain⟨fn,hfn⟩:∃p,(typeE E f).getD ([],[])=p:=⟨_,rfl⟩
     have HOK:=jq hok
     have HFN:=jq hfn
     clear hok hfn
     refine(HC.out v6 V E (HE.out.keep HB.out) HG.out).mono ?_
     rintro e w7 ⟨⟨V1,rfl,hev⟩,hb⟩
     have HX:=jq (blk HX.out hb)
     have HA4:=jq (blk HA4.out hb)
     have HD5:=jq (blk HD5.out hb)
     have HSA:=jq (HSA.out.keep hb)
     have HSD:=jq (HSD.out.keep hb)
     have HB:=jq (HB.out.trans (hb.mono HB.out.size))
     have HEV:=jq hev
     clear hb hev
     go_wp2_with fail
     refine(Type_any (f:=f) HEV.out HF.out).mono ?_
     rintro e w8 ⟨⟨P6,n6,c6,Q6,m6,d6,rfl,r1,r2⟩,hb⟩
     rw[HOK.out]
     rw[HFN.out] at r1 r2
     have HT:=jq (hb.trans ((zaB w8 (.cells #[.slice P6 n6 c6,.slice Q6 m6 d6] 51)).mono hb.size))
     have HX:=jq (blk HX.out HT.out)
     have HA4:=jq (blk HA4.out HT.out)
     have HD5:=jq (blk HD5.out HT.out)
     have HSA:=jq (HSA.out.keep HT.out)
     have HSD:=jq (HSD.out.keep HT.out)
     have HB:=jq (HB.out.trans (HT.out.mono HB.out.size))
     have HR1:=jq (r1.keep (zaB w8 (.cells #[.slice P6 n6 c6,.slice Q6 m6 d6] 51)))
     have HR2:=jq (r2.keep (zaB w8 (.cells #[.slice P6 n6 c6,.slice Q6 m6 d6] 51)))
     have HF6:=jq (zaC w8 (.cells #[.slice P6 n6 c6,.slice Q6 m6 d6] 51))
     clear hb HT r1 r2
     obtain⟨a0,a1,a2,a3,a4,a5,a6⟩:=cells7b HX.out
     have xl:=jl HX.out
     go_wp2_with fail
     clear a0 a1 a2 a3 a4 a5 a6 xl
     generalize w8.alloc (.cells #[.slice P6 n6 c6,.slice Q6 m6 d6] 51)=v8 at *
     obtain⟨xf,hq⟩:∃q,w8.heap.size=q:=⟨_,rfl⟩
     rw[hq] at HF6
     simp only[hq]
     clear hq
     refine(rtype_any (f:=f) (HE.out.keep HB.out)).mono ?_
     rintro e w9 ⟨⟨P7,n7,c7,Q7,m7,d7,rfl,r1,r2⟩,hb⟩
     rw[HOK.out]
     rw[HFN.out] at r1 r2
     have HT:=jq (hb.trans ((zaB w9 (.cells #[.slice P7 n7 c7,.slice Q7 m7 d7] 51)).mono hb.size))
     have HA4:=jq (blk HA4.out HT.out)
     have HD5:=jq (blk HD5.out HT.out)
     have HF6:=jq (blk HF6.out HT.out)
     have HSA:=jq (HSA.out.keep HT.out)
     have HSD:=jq (HSD.out.keep HT.out)
     have HR1:=jq (HR1.out.keep HT.out)
     have HR2:=jq (HR2.out.keep HT.out)
     have HB:=jq (HB.out.trans (HT.out.mono HB.out.size))
     have HR3:=jq (r1.keep (zaB w9 (.cells #[.slice P7 n7 c7,.slice Q7 m7 d7] 51)))
     have HR4:=jq (r2.keep (zaB w9 (.cells #[.slice P7 n7 c7,.slice Q7 m7 d7] 51)))
     have HG7:=jq (zaC w9 (.cells #[.slice P7 n7 c7,.slice Q7 m7 d7] 51))
     clear hb HT r1 r2
     go_wp2_with fail
     generalize w9.alloc (.cells #[.slice P7 n7 c7,.slice Q7 m7 d7] 51)=v9 at *
     obtain⟨xg,hq⟩:∃q,w9.heap.size=q:=⟨_,rfl⟩
     rw[hq] at HG7
     simp only[hq]
     clear hq
     have HS1:=jq (fun W (hW:Below v9.heap.size v9 W)=>run_txt (HR1.out.keep hW))
     have HS2:=jq (fun W (hW:Below v9.heap.size v9 W)=>run_txt (HR2.out.keep hW))
     have HS3:=jq (fun W (hW:Below v9.heap.size v9 W)=>run_txt (HR3.out.keep hW))
     have HS4:=jq (fun W (hW:Below v9.heap.size v9 W)=>run_txt (HR4.out.keep hW))
     generalize strOfNums fn.1=S1 at HS1 HS3
     generalize strOfNums fn.2=S2 at HS2 HS4
     obtain⟨f0,f1⟩:=zaH HF6.out
     obtain⟨k0,k1⟩:=zaH HG7.out
     have fl:=jl HF6.out
     have gl:=jl HG7.out
     clear HR1 HR2 HR3 HR4 HOK HFN
     refine Stab.region 98 [.is (.bool true),.is (.bool true),.is (.agg #[.slice P4 n4 c4,.slice Q4 m4 d4]),.fits (fun v W=>StIs elD W v R),.is (.agg #[.slice P5 n5 c5,.slice Q5 m5 d5]),.is (.bool true),.is (.bool true),.is (.bool true),.is (.int .i64 g),.is (.int .i64 g),.is (.bool true),.is (.bool true),.is (.bool true),.is (.pointer (some ⟨xf,0,none⟩)),.is (.slice P6 n6 c6),.is (.string S1),.is (.pointer (some ⟨xg,0,none⟩)),.is (.slice P7 n7 c7),.is (.string S1),.is (.bool true),.is (.bool true),.is (.bool true),.is (.pointer (some ⟨xf,0+1,none⟩)),.is (.slice Q6 m6 d6),.is (.string S2),.is (.pointer (some ⟨xg,0+1,none⟩)),.is (.slice Q7 m7 d7),.is (.string S2),.is (.bool true),.is (.bool true),.is (.bool true),.is (.bool ok),.is (.bool ok),.is (.bool true),.is (.bool true),.is (.bool true)] (by kernel_rfl) (by kernel_rfl) rfl rfl ?_ ?_
     ·with_reducible refine Stab.zaF ?_ ?_ ?_
      ·exact Stab.owes_move rfl rfl rfl
      ·exact trivial
      with_reducible refine Stab.zaF ?_ ?_ ?_
      ·exact Stab.owes_move rfl rfl rfl
      ·exact trivial
      with_reducible refine Stab.zaF ?_ ?_ ?_
      ·exact Stab.owes_load rfl (fun v W hb hv=>by subst hv;exact ld_stk (blk HA4.out hb)) rfl
      ·exact trivial
      with_reducible refine Stab.zaF ?_ ?_ ?_
      ·(refine Stab.owes_call Tryz.func19 (by kernel_rfl) (by kernel_rfl) rfl (fun vs W hb hall=>?_) rfl;obtain ⟨_,_,rfl,rfl,rfl⟩:=hall;refine (theirs10_any (HSA.out.keep hb) HRL.out).mono ?_;rintro e w2 ⟨⟨P',n',c',Q',m',d',rfl,hv⟩,hb2⟩;exact⟨_,rfl,hb2,hv⟩)
      ·exact fun v w w' h hb=>StIs.keep h hb
      with_reducible refine Stab.zaF ?_ ?_ ?_
      ·exact Stab.owes_load rfl (fun v W hb hv=>by subst hv;exact ld_stD (blk HD5.out hb)) rfl
      ·exact trivial
      with_reducible refine Stab.zaF ?_ ?_ ?_
      ·(refine Stab.owes_call Tryz.func18 (by kernel_rfl) (by kernel_rfl) rfl (fun vs W hb hall=>?_) rfl;obtain ⟨v1,_,rfl,h1,v2,_,rfl,h2,rfl⟩:=hall;have h1:StIs elD W v1 R:=h1;have h2:=(show v2=_ from h2);subst h2;refine (same_yes h1 (HSD.out.keep hb) (by have:=HRL.out;omega)).mono ?_;rintro e w2 ⟨rfl,hb2⟩;exact⟨_,rfl,hb2,rfl⟩)
      ·exact trivial
      with_reducible refine Stab.zaF ?_ ?_ ?_
      ·exact Stab.owes_pick rfl rfl rfl rfl
      ·exact trivial
      with_reducible refine Stab.zaF ?_ ?_ ?_
      ·exact Stab.owes_move rfl rfl rfl
      ·exact trivial
      with_reducible refine Stab.zaF ?_ ?_ ?_
      ·exact Stab.owes_move rfl rfl rfl
      ·exact trivial
      with_reducible refine Stab.zaF ?_ ?_ ?_
      ·exact Stab.owes_move rfl rfl rfl
      ·exact trivial
      with_reducible refine Stab.zaF ?_ ?_ ?_
      ·exact Stab.owes_bin rfl rfl rfl (fun W=>Stab.run_eqE _ _ g g true (by simp) W) rfl
      ·exact trivial
      with_reducible refine Stab.zaF ?_ ?_ ?_
      ·exact Stab.owes_pick rfl rfl rfl rfl
      ·exact trivial
      with_reducible refine Stab.zaF ?_ ?_ ?_
      ·exact Stab.owes_move rfl rfl rfl
      ·exact trivial
      with_reducible refine Stab.zaF ?_ ?_ ?_
      ·exact Stab.owes_fieldAt rfl rfl (fun W=>run_fFn0 _ _ W) rfl
      ·exact trivial
      with_reducible refine Stab.zaF ?_ ?_ ?_
      ·exact Stab.owes_load rfl (fun v W hb hv=>by subst hv;exact run_ldBy ((hb.cell (p:=⟨xf,0,none⟩) fl).trans f0)) rfl
      ·exact trivial
      with_reducible refine Stab.zaF ?_ ?_ ?_
      ·exact Stab.owes_convert rfl (fun v W hb hv=>by subst hv;exact HS1.out W hb) rfl
      ·exact trivial
      with_reducible refine Stab.zaF ?_ ?_ ?_
      ·exact Stab.owes_fieldAt rfl rfl (fun W=>run_fFn0 _ _ W) rfl
      ·exact trivial
      with_reducible refine Stab.zaF ?_ ?_ ?_
      ·exact Stab.owes_load rfl (fun v W hb hv=>by subst hv;exact run_ldBy ((hb.cell (p:=⟨xg,0,none⟩) gl).trans k0)) rfl
      ·exact trivial
      with_reducible refine Stab.zaF ?_ ?_ ?_
      ·exact Stab.owes_convert rfl (fun v W hb hv=>by subst hv;exact HS3.out W hb) rfl
      ·exact trivial
      with_reducible refine Stab.zaF ?_ ?_ ?_
      ·exact Stab.owes_bin rfl rfl rfl (fun W=>run_eqSS _ _ _ W) rfl
      ·exact trivial
      with_reducible refine Stab.zaF ?_ ?_ ?_
      ·exact Stab.owes_pick rfl rfl rfl rfl
      ·exact trivial
      with_reducible refine Stab.zaF ?_ ?_ ?_
      ·exact Stab.owes_move rfl rfl rfl
      ·exact trivial
      with_reducible refine Stab.zaF ?_ ?_ ?_
      ·exact Stab.owes_fieldAt rfl rfl (fun W=>run_fFn1 _ _ W) rfl
      ·exact trivial
      with_reducible refine Stab.zaF ?_ ?_ ?_
      ·exact Stab.owes_load rfl (fun v W hb hv=>by subst hv;exact run_ldBy ((hb.cell (p:=⟨xf,1,none⟩) fl).trans f1)) rfl
      ·exact trivial
      with_reducible refine Stab.zaF ?_ ?_ ?_
      ·exact Stab.owes_convert rfl (fun v W hb hv=>by subst hv;exact HS2.out W hb) rfl
      ·exact trivial
      with_reducible refine Stab.zaF ?_ ?_ ?_
      ·exact Stab.owes_fieldAt rfl rfl (fun W=>run_fFn1 _ _ W) rfl
      ·exact trivial
      with_reducible refine Stab.zaF ?_ ?_ ?_
      ·exact Stab.owes_load rfl (fun v W hb hv=>by subst hv;exact run_ldBy ((hb.cell (p:=⟨xg,1,none⟩) gl).trans k1)) rfl
      ·exact trivial
      with_reducible refine Stab.zaF ?_ ?_ ?_
      ·exact Stab.owes_convert rfl (fun v W hb hv=>by subst hv;exact HS4.out W hb) rfl
      ·exact trivial
      with_reducible refine Stab.zaF ?_ ?_ ?_
      ·exact Stab.owes_bin rfl rfl rfl (fun W=>run_eqSS _ _ _ W) rfl
      ·exact trivial
      with_reducible refine Stab.zaF ?_ ?_ ?_
      ·exact Stab.owes_pick rfl rfl rfl rfl
      ·exact trivial
      with_reducible refine Stab.zaF ?_ ?_ ?_
      ·exact Stab.owes_move rfl rfl rfl
      ·exact trivial
      with_reducible refine Stab.zaF ?_ ?_ ?_
      ·exact Stab.owes_move rfl rfl rfl
      ·exact trivial
      with_reducible refine Stab.zaF ?_ ?_ ?_
      ·exact Stab.owes_move rfl rfl rfl
      ·exact trivial
      with_reducible refine Stab.zaF ?_ ?_ ?_
      ·exact Stab.owes_bin rfl rfl rfl (fun W=>run_eqBo _ _ ok ok true (by simp) W) rfl
      ·exact trivial
      with_reducible refine Stab.zaF ?_ ?_ ?_
      ·exact Stab.owes_pick rfl rfl rfl rfl
      ·exact trivial
      with_reducible refine Stab.zaF ?_ ?_ ?_
      ·exact Stab.owes_assign rfl rfl rfl
      ·exact trivial
      exact Stab.steps_nil
     intro y1 w10 hb _
     simp only[Act.put,List.setIfInBounds_toArray,List.set_cons_succ,List.set_cons_zero]
     have HB:=jq (HB.out.trans (hb.mono HB.out.size))
     clear hb f0 f1 k0 k1 fl gl
     go_wp2_with fail
     exact bodyPost_ret (v:=.bool true) (by simp[results,Tryz.results3,go_sem]) rfl ⟨rfl,by first | exact HB.out | (rw[<- hx];exact HB.out)⟩)
end Go.Proofs.YtlappkflnlbfcaaGreatDoor.Chk
