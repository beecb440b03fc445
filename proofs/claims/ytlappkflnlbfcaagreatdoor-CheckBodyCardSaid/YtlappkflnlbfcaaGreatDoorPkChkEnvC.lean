import Derived.Test.YtlappkflnlbfcaaGreatDoorPkChkWk4
import Derived.Test.YtlappkflnlbfcaaGreatDoorPkChkFrame
import Derived.Test.YtlappkflnlbfcaaGreatDoorPkInsStab
import Derived.Test.YtlappkflnlbfcaaGreatDoorPkChkPath
import Derived.Test.YtlappkflnlbfcaaGreatDoorPkChkRStep
import Derived.Test.YtlappkflnlbfcaaGreatDoorPkChkStepP
import Derived.Test.YtlappkflnlbfcaaGreatDoorPkChkClose
import Derived.Test.YtlappkflnlbfcaaGreatDoorPkStkRLabel
import Derived.Test.YtlappkflnlbfcaaGreatDoorPkChkWk
namespace Go.Proofs.YtlappkflnlbfcaaGreatDoor.Chk
open Lib renaming hid → jq
open Go.RowKit Row9 Stk
set_option maxRecDepth 100000
set_option maxHeartbeats 16000000
set_option linter.unusedVariables false
theorem six_rng {op:Int}(h:Ins.kd op=6):40<=op/\op<=62:=by
 unfold Ins.kd at h
 repeat' (first | omega | (split at h))
theorem lt_dec (a:Int):decide (0<a)=decide (1<=a):=decide_eq_decide.2 (by omega)
theorem okN_rng {x:Int}(h:Ins.okN x=true):0<=x/\w64 x:=by
 unfold Ins.okN at h
 simp only[Bool.and_eq_true,decide_eq_true_eq] at h
 exact⟨h.1,by omega,by omega⟩
theorem rtake_any {w:World}{V:EV}{E:EnvP}{op A B K:Int}{PL:Option Addr}{nL cL:Nat}{LL:List Int}{P Q:Option Addr}{n c m d:Nat}{s:Stk}(hE:EnvOk elGD w V E)(hS:StIs elD w (.agg #[.slice P n c,.slice Q m d]) s)(hz:s.vals.length<=290000/\s.cs.length<=290000)(hF:FnBd E)(hL:Ins.SlI w (.slice PL nL cL) LL)(hs:sane s=true)(hi:Ins.saneI ⟨op,A,B,K,LL⟩=true):Calls Tryz.prog 15 #[(.agg #[.slice V.Pt V.nt V.ct,.slice V.Pf V.nf V.cf,.int .i64 E.tables,.int .i64 E.mems,.slice V.Pg V.ng V.cg,.slice V.Pl V.nl V.cl,.slice V.Pr V.nr V.cr]),.agg #[.slice P n c,.slice Q m d],.agg #[.int .i64 op,.int .i64 A,.int .i64 B,.int .u64 K,.slice PL nL cL]] w (RStepEnds w (takeR E ⟨op,A,B,K,LL⟩ s)):=by
 have hr:=Ins.kd_range op
 have hzz:=kd_nz hi
 simp only at hzz
 have hnL:LL.length=nL:=by obtain ⟨A0,c0,e,_⟩:=hL;injection e with _ e;exact e.symm
 have hi2:=hi
 rw[Ins.saneI_eq] at hi2
 simp only at hi2
 unfold takeR
 simp only
 by_cases h1:Ins.kd op=1
 ·rw[if_pos h1]
  rw[h1,Ins.saneK_1] at hi2
  obtain⟨rfl,_,_,rfl⟩:=of_decide_eq_true hi2
  have ho:op=0\/op=1\/op=5\/op=11\/op=15\/op=26\/op=27\/((69<=op/\op<=90)\/(103<=op/\op<=138)\/op=167\/op=172\/op=173):=by
   have hk:=h1
   unfold Ins.kd at hk
   repeat (first | omega | (split at hk))
  rcases ho with rfl | rfl | rfl | rfl | rfl | rfl | rfl | ho
  ·exact rstep_0 hE hS hz hF hL hs hi
  ·have e:plainR E 1 s= .ok s:=by
    show pushR [] (.ok s)= .ok s
    show ofP (pushS s [])= .ok s
    unfold pushS
    simp[hs,ofP]
   rw[e]
   exact rstep_1 hE hS hz hF hL hs hi
  ·exact rstep_M hE hS hz hF hL hs hi (.inl ⟨by omega,by omega,fun u k h1 h2 h3=>nested_5 h1 (by omega)⟩)
  ·exact rstep_M hE hS hz hF hL hs hi (.inr (.inl ⟨by omega,by omega,fun u k h1 h2 h3=>nested_11 h1 (by omega)⟩))
  ·exact rstep_M hE hS hz hF hL hs hi (.inr (.inr (.inl ⟨by omega,by omega,fun u k h1 h2 h3=>branch_15 h1 (by omega) h2 hF⟩)))
  ·exact rstep_M hE hS hz hF hL hs hi (.inr (.inr (.inr (.inr (.inl ⟨by omega,by omega,fun u k h1 h2 h3=>chosen_26 h1 (by omega)⟩)))))
  ·exact rstep_M hE hS hz hF hL hs hi (.inr (.inr (.inr (.inr (.inl ⟨by omega,by omega,fun u k h1 h2 h3=>(show Calls _ _ _ _ (CwEnds _ _ (chooseR s) (290000+1) _) from chosen_27 h1 (by omega))⟩)))))
  ·have e:plainR E op s=pushR [(shT op).2] (wantR (shT op).1 (.ok s)):=by
    unfold plainR
    rw[if_neg (by omega),if_neg (by omega),if_neg (by omega),if_neg (by omega),if_neg (by omega),if_neg (by omega),if_neg (by omega)]
   rw[e]
   exact rstep_op hE hS hz hF hL hs hi ho
 ·rw[if_neg h1]
  by_cases h2:Ins.kd op=2
  ·rw[if_pos h2]
   rw[h2,Ins.saneK_2] at hi2
   simp only[Bool.and_eq_true,Bool.or_eq_true,beq_iff_eq] at hi2
   have ho:op=2\/op=3\/op=4:=by
    have hk:=h2
    unfold Ins.kd at hk
    repeat (first | omega | (split at hk))
   by_cases hA:A=0
   ·subst hA
    rcases ho with rfl | rfl | rfl
    ·exact rstep_M hE hS hz hF hL hs hi (.inl ⟨by omega,by omega,fun u k h1 h2 h3=>nested_2 h1 (by omega)⟩)
    ·exact rstep_M hE hS hz hF hL hs hi (.inl ⟨by omega,by omega,fun u k h1 h2 h3=>nested_3 h1 (by omega)⟩)
    ·exact rstep_M hE hS hz hF hL hs hi (.inl ⟨by omega,by omega,fun u k h1 h2 h3=>nested_4 h1 (by omega)⟩)
   ·have hAr:0<A/\A<256:=by have:=hi2.1;omega
    unfold blockR
    rw[if_neg hA]
    rcases ho with rfl | rfl | rfl
    ·exact rstep_M hE hS hz hF hL hs hi (.inl ⟨by omega,by omega,fun u k h1 h2 h3=>nested_2v h1 (by omega) hAr⟩)
    ·exact rstep_M hE hS hz hF hL hs hi (.inl ⟨by omega,by omega,fun u k h1 h2 h3=>nested_3v h1 (by omega) hAr⟩)
    ·exact rstep_M hE hS hz hF hL hs hi (.inl ⟨by omega,by omega,fun u k h1 h2 h3=>nested_4v h1 (by omega) hAr⟩)
  ·rw[if_neg h2]
   by_cases h3:Ins.kd op=3
   ·rw[if_pos h3]
    rw[h3,Ins.saneK_3,Bool.and_eq_true] at hi2
    obtain⟨hA0,hAw⟩:=okN_rng hi2.1
    obtain⟨_,_,_,rfl⟩:=of_decide_eq_true hi2.2
    have ho:op=12\/op=13\/op=16\/op=32\/op=33\/op=34\/op=35\/op=36:=by
     have hk:=h3
     unfold Ins.kd at hk
     repeat (first | omega | (split at hk))
    have hn0:nL<=1000000:=by rw[<- hnL];exact Nat.zero_le _
    rcases ho with rfl | rfl | rfl | rfl | rfl | rfl | rfl | rfl
    ·exact rstep_M hE hS hz hF hL hs hi (.inr (.inr (.inl ⟨by omega,by omega,fun u k h1 h2 h3=>branch_12 h1 (by omega) h2 h3 hnL hn0 (by simp) hAw⟩)))
    ·exact rstep_M hE hS hz hF hL hs hi (.inr (.inr (.inl ⟨by omega,by omega,fun u k h1 h2 h3=>branch_13 h1 (by omega) h2 h3 hnL hn0 (by simp) hAw⟩)))
    ·exact rstep_M hE hS hz hF hL hs hi (.inr (.inr (.inr (.inl ⟨by omega,by omega,fun u k h1 h2 h3=>call_16 h1 (by omega) h2 hF⟩))))
    ·exact rstep_M hE hS hz hF hL hs hi (.inr (.inr (.inr (.inr (.inr (.inl ⟨by omega,by omega,fun u k h1 h2 h3=>variable_32 h1 (by omega) h2 hA0⟩))))))
    ·exact rstep_M hE hS hz hF hL hs hi (.inr (.inr (.inr (.inr (.inr (.inl ⟨by omega,by omega,fun u k h1 h2 h3=>variable_33 h1 (by omega) h2 hA0⟩))))))
    ·exact rstep_M hE hS hz hF hL hs hi (.inr (.inr (.inr (.inr (.inr (.inl ⟨by omega,by omega,fun u k h1 h2 h3=>variable_34 h1 (by omega) h2 hA0⟩))))))
    ·exact rstep_M hE hS hz hF hL hs hi (.inr (.inr (.inr (.inr (.inr (.inl ⟨by omega,by omega,fun u k h1 h2 h3=>variable_35 h1 (by omega) h2 hA0⟩))))))
    ·exact rstep_M hE hS hz hF hL hs hi (.inr (.inr (.inr (.inr (.inr (.inl ⟨by omega,by omega,fun u k h1 h2 h3=>variable_36 h1 (by omega) h2 hA0⟩))))))
   ·rw[if_neg h3]
    by_cases h4:Ins.kd op=4
    ·rw[if_pos h4]
     rw[h4,Ins.saneK_4] at hi2
     simp only[Bool.and_eq_true,decide_eq_true_eq] at hi2
     obtain rfl:op=14:=by
      have hk:=h4
      unfold Ins.kd at hk
      repeat (first | omega | (split at hk))
     exact rstep_M hE hS hz hF hL hs hi (.inr (.inr (.inl ⟨by omega,by omega,fun u k h1 h2 h3=>branch_14 h1 (by omega) h2 h3 hnL (by have:=hi2.1.1.2;omega) (fun x hx=>(okN_rng (List.all_eq_true.1 hi2.1.1.1 x hx)).2) (okN_rng hi2.1.2).2⟩)))
    ·rw[if_neg h4]
     by_cases h5:Ins.kd op=5
     ·rw[if_pos h5]
      rw[h5,Ins.saneK_5,Bool.and_eq_true] at hi2
      obtain rfl:op=17:=by
       have hk:=h5
       unfold Ins.kd at hk
       repeat (first | omega | (split at hk))
      unfold callIR namedR
      rw[<- lt_dec]
      exact rstep_M hE hS hz hF hL hs hi (.inr (.inr (.inr (.inl ⟨by omega,by omega,fun u k h1 h2 h3=>call_17 h1 (by omega) h2 hF (okN_rng hi2.1).1⟩))))
     ·rw[if_neg h5]
      by_cases h6:Ins.kd op=6
      ·rw[if_pos h6]
       rw[h6,Ins.saneK_6] at hi2
       simp only[Bool.and_eq_true] at hi2
       have hA0:=(okN_rng hi2.1.1).1
       have h8:=(ax_six h6).1
       unfold accessR
       simp only
       rw[<- lt_dec]
       rcases (show A=0\/A=1\/A=2\/A=3\/3<A by omega) with rfl | rfl | rfl | rfl | hA
       ·rw[show fitA 0 (Ins.ax op).2.1=decide (1<=(Ins.ax op).2.1) by rcases h8 with h | h | h | h <;> rw[h] <;> rfl]
        exact rstep_M hE hS hz hF hL hs hi (.inr (.inr (.inr (.inr (.inr (.inr ⟨by have:=six_rng h6;omega,by have:=six_rng h6;omega,fun u k h1 h2 h3=>memory_aN h1 (by omega) h2 h6 (by decide) sh_0⟩))))))
       ·rw[show fitA 1 (Ins.ax op).2.1=decide (2<=(Ins.ax op).2.1) by rcases h8 with h | h | h | h <;> rw[h] <;> rfl]
        exact rstep_M hE hS hz hF hL hs hi (.inr (.inr (.inr (.inr (.inr (.inr ⟨by have:=six_rng h6;omega,by have:=six_rng h6;omega,fun u k h1 h2 h3=>memory_aN h1 (by omega) h2 h6 (by decide) sh_1⟩))))))
       ·rw[show fitA 2 (Ins.ax op).2.1=decide (4<=(Ins.ax op).2.1) by rcases h8 with h | h | h | h <;> rw[h] <;> rfl]
        exact rstep_M hE hS hz hF hL hs hi (.inr (.inr (.inr (.inr (.inr (.inr ⟨by have:=six_rng h6;omega,by have:=six_rng h6;omega,fun u k h1 h2 h3=>memory_aN h1 (by omega) h2 h6 (by decide) sh_2⟩))))))
       ·rw[show fitA 3 (Ins.ax op).2.1=decide (8<=(Ins.ax op).2.1) by rcases h8 with h | h | h | h <;> rw[h] <;> rfl]
        exact rstep_M hE hS hz hF hL hs hi (.inr (.inr (.inr (.inr (.inr (.inr ⟨by have:=six_rng h6;omega,by have:=six_rng h6;omega,fun u k h1 h2 h3=>memory_aN h1 (by omega) h2 h6 (by decide) sh_3⟩))))))
       ·rw[show fitA A (Ins.ax op).2.1=false by unfold fitA;rw[decide_eq_false (show ¬ A<=0 by omega),decide_eq_false (show ¬ A<=1 by omega),decide_eq_false (show ¬ A<=2 by omega),decide_eq_false (show ¬ A<=3 by omega)];rfl]
        exact rstep_M hE hS hz hF hL hs hi (.inr (.inr (.inr (.inr (.inr (.inr ⟨by have:=six_rng h6;omega,by have:=six_rng h6;omega,fun u k h1 h2 h3=>memory_aA h1 (by omega) h2 h6 hA⟩))))))
      ·rw[if_neg h6]
       by_cases h7:Ins.kd op=7
       ·rw[if_pos h7]
        have ho:op=63\/op=64:=by
         have hk:=h7
         unfold Ins.kd at hk
         repeat (first | omega | (split at hk))
        unfold memR
        simp only
        rw[<- lt_dec]
        rcases ho with rfl | rfl
        ·exact rstep_M hE hS hz hF hL hs hi (.inr (.inr (.inr (.inr (.inr (.inr ⟨by omega,by omega,fun u k h1 h2 h3=>memory_63 h1 (by omega) h2⟩))))))
        ·exact rstep_M hE hS hz hF hL hs hi (.inr (.inr (.inr (.inr (.inr (.inr ⟨by omega,by omega,fun u k h1 h2 h3=>memory_64 h1 (by omega) h2⟩))))))
       ·rw[if_neg h7]
        by_cases h8:Ins.kd op=8
        ·rw[if_pos h8]
         obtain rfl:op=65:=by
          have hk:=h8
          unfold Ins.kd at hk
          repeat (first | omega | (split at hk))
         exact rstep_65 hE hS hz hF hL hs hi
        ·rw[if_neg h8]
         obtain rfl:op=66:=by
          have hk:Ins.kd op=9:=by omega
          unfold Ins.kd at hk
          repeat (first | omega | (split at hk))
         exact rstep_66 hE hS hz hF hL hs hi
theorem rstep_ns {w:World}{V:EV}{E:EnvP}{op A B K:Int}{PL:Option Addr}{nL cL:Nat}{LL:List Int}{P Q:Option Addr}{n c m d:Nat}{s:Stk}(hE:EnvOk elGD w V E)(hS:StIs elD w (.agg #[.slice P n c,.slice Q m d]) s)(hz:s.vals.length<=290000/\s.cs.length<=290000)(hF:FnBd E)(hL:Ins.SlI w (.slice PL nL cL) LL)(hs:sane s=false):Calls Tryz.prog 15 #[(.agg #[.slice V.Pt V.nt V.ct,.slice V.Pf V.nf V.cf,.int .i64 E.tables,.int .i64 E.mems,.slice V.Pg V.ng V.cg,.slice V.Pl V.nl V.cl,.slice V.Pr V.nr V.cr]),.agg #[.slice P n c,.slice Q m d],(.agg #[.int .i64 op,.int .i64 A,.int .i64 B,.int .u64 K,.slice PL nL cL])] w (RStepEnds w (Rs.er 1)):=by
 obtain⟨X,hX⟩:∃X,(Rs.er 1)=X:=⟨_,rfl⟩
 rw[hX]
 have HXX:=jq hX
 clear hX
 obtain⟨HBX,HXE,HXS,HXI,HXR⟩:=four (w:=w) (oE V E) (oS P n c Q m d) (oI op A B K (.slice PL nL cL)) (.cells #[.slice none 0 0,.slice none 0 0] 30)
 have HBX:=jq HBX
 have HXE:=jq HXE
 have HXS:=jq HXS
 have HXI:=jq HXI
 have HXR:=jq HXR
 have HE:=jq (hE.keep HBX.out)
 have HST:=jq (hS.keep HBX.out)
 have HLB:=jq (hL.keep HBX.out)
 have HNL:Hid (LL.length=nL):=jq (by obtain ⟨A0,c0,e,_⟩:=hL;injection e with _ e;exact e.symm)
 have HZ:=jq hz
 have HFB:=jq hF
 have HSS:=jq hs
 clear hE hS hz hF hL hs
 obtain⟨a0,a1,a2,a3,a4,a5,a6⟩:=zaK HXE.out
 have al:=jl HXE.out
 obtain⟨s0,s1,sp0,sp1⟩:=cells2k HXS.out
 have sl:=jl HXS.out
 obtain⟨b0,b1,b2,b3,b4⟩:=cells5a HXI.out
 have bl:=jl HXI.out
 go_enter Tryz.func15,Tryz.ntmps15
 go_wp2_with fail
 clear a0 a1 a2 a3 a4 a5 a6 al s0 s1 sp0 sp1 sl b0 b1 b2 b3 b4 bl
 generalize ((((w.alloc (oE V E)).alloc (oS P n c Q m d)).alloc (oI op A B K (.slice PL nL cL))).alloc (.cells #[.slice none 0 0,.slice none 0 0] 30))=u0 at *
 obtain⟨y,hy⟩:∃y,w.heap.size=y:=⟨_,rfl⟩
 have HBY:=jq hy
 rw[hy] at HXE HXS HXI HXR
 simp only[hy]
 clear hy
 refine(Stk.rsane_any HST.out).mono ?_
 rintro e w1 ⟨rfl,hb⟩
 rw[HSS.out]
 have HB1:=jq (HBX.out.trans (hb.mono HBX.out.size))
 have HXR:=jq (blk HXR.out hb)
 clear hb HBX
 obtain⟨r0,r1,rp0,rp1⟩:=cells2k HXR.out
 have rl:=jl HXR.out
 go_wp2_with fail
 have hy:=HBY.out
 have hx:((w1.setCell ⟨y+3,0,none⟩ (.slice none 0 0)).setCell ⟨y+3,1,none⟩ (.slice none 0 0)).heap[y+3]? = some (.cells #[.slice none 0 0,.slice none 0 0] 30 (0,0)):=zaE (zaE HXR.out (i:=0) (.slice none 0 0)) (i:=1) (.slice none 0 0)
 obtain⟨q0,q1⟩:_/\_:=⟨(zaA hx 0).1,(zaA hx 1).1⟩
 rw[<- HXX.out]
 exact bodyPost_ret (v:=.tuple #[.agg #[.slice none 0 0,.slice none 0 0],.int .i64 1]) (by simp[results,Tryz.results15,go_sem,q0,q1]) rfl ⟨⟨by decide,rfl⟩,(HB1.out.setCell (p:=⟨y+3,0,none⟩) (by show w.heap.size<=y+3;omega) _).setCell (p:=⟨y+3,1,none⟩) (by show w.heap.size<=y+3;omega) _⟩
theorem rstep_ni {w:World}{V:EV}{E:EnvP}{op A B K:Int}{PL:Option Addr}{nL cL:Nat}{LL:List Int}{P Q:Option Addr}{n c m d:Nat}{s:Stk}(hE:EnvOk elGD w V E)(hS:StIs elD w (.agg #[.slice P n c,.slice Q m d]) s)(hz:s.vals.length<=290000/\s.cs.length<=290000)(hF:FnBd E)(hL:Ins.SlI w (.slice PL nL cL) LL)(hs:sane s=true)(hi:Ins.saneI ⟨op,A,B,K,LL⟩=false):Calls Tryz.prog 15 #[(.agg #[.slice V.Pt V.nt V.ct,.slice V.Pf V.nf V.cf,.int .i64 E.tables,.int .i64 E.mems,.slice V.Pg V.ng V.cg,.slice V.Pl V.nl V.cl,.slice V.Pr V.nr V.cr]),.agg #[.slice P n c,.slice Q m d],(.agg #[.int .i64 op,.int .i64 A,.int .i64 B,.int .u64 K,.slice PL nL cL])] w (RStepEnds w (Rs.er 1)):=by
 obtain⟨X,hX⟩:∃X,(Rs.er 1)=X:=⟨_,rfl⟩
 rw[hX]
 have HXX:=jq hX
 clear hX
 obtain⟨HBX,HXE,HXS,HXI,HXR⟩:=four (w:=w) (oE V E) (oS P n c Q m d) (oI op A B K (.slice PL nL cL)) (.cells #[.slice none 0 0,.slice none 0 0] 30)
 have HBX:=jq HBX
 have HXE:=jq HXE
 have HXS:=jq HXS
 have HXI:=jq HXI
 have HXR:=jq HXR
 have HE:=jq (hE.keep HBX.out)
 have HST:=jq (hS.keep HBX.out)
 have HLB:=jq (hL.keep HBX.out)
 have HNL:Hid (LL.length=nL):=jq (by obtain ⟨A0,c0,e,_⟩:=hL;injection e with _ e;exact e.symm)
 have HZ:=jq hz
 have HFB:=jq hF
 have HSS:=jq hs
 have HSI:=jq hi
 clear hE hS hz hF hL hs hi
 obtain⟨a0,a1,a2,a3,a4,a5,a6⟩:=zaK HXE.out
 have al:=jl HXE.out
 obtain⟨s0,s1,sp0,sp1⟩:=cells2k HXS.out
 have sl:=jl HXS.out
 obtain⟨b0,b1,b2,b3,b4⟩:=cells5a HXI.out
 have bl:=jl HXI.out
 go_enter Tryz.func15,Tryz.ntmps15
 go_wp2_with fail
 clear a0 a1 a2 a3 a4 a5 a6 al s0 s1 sp0 sp1 sl b0 b1 b2 b3 b4 bl
 generalize ((((w.alloc (oE V E)).alloc (oS P n c Q m d)).alloc (oI op A B K (.slice PL nL cL))).alloc (.cells #[.slice none 0 0,.slice none 0 0] 30))=u0 at *
 obtain⟨y,hy⟩:∃y,w.heap.size=y:=⟨_,rfl⟩
 have HBY:=jq hy
 rw[hy] at HXE HXS HXI HXR
 simp only[hy]
 clear hy
 refine(Stk.rsane_any HST.out).mono ?_
 rintro e w1 ⟨rfl,hb⟩
 rw[HSS.out]
 have HB1:=jq (HBX.out.trans (hb.mono HBX.out.size))
 have HXE:=jq (blk HXE.out hb)
 have HXS:=jq (blk HXS.out hb)
 have HXI:=jq (blk HXI.out hb)
 have HXR:=jq (blk HXR.out hb)
 have HE:=jq (HE.out.keep hb)
 have HST:=jq (HST.out.keep hb)
 have HLB:=jq (HLB.out.keep hb)
 clear hb HBX
 obtain⟨b0,b1,b2,b3,b4⟩:=cells5a HXI.out
 have bl:=jl HXI.out
 go_wp2_with fail
 clear b0 b1 b2 b3 b4 bl
 refine(Ins.rsane_any (x:=⟨op,A,B,K,LL⟩) HLB.out).mono ?_
 rintro e w2 ⟨rfl,hb⟩
 rw[HSI.out]
 have HB1:=jq (HB1.out.trans (hb.mono HB1.out.size))
 have HXR:=jq (blk HXR.out hb)
 clear hb
 obtain⟨r0,r1,rp0,rp1⟩:=cells2k HXR.out
 have rl:=jl HXR.out
 go_wp2_with fail
 have hy:=HBY.out
 have hx:((w2.setCell ⟨y+3,0,none⟩ (.slice none 0 0)).setCell ⟨y+3,1,none⟩ (.slice none 0 0)).heap[y+3]? = some (.cells #[.slice none 0 0,.slice none 0 0] 30 (0,0)):=zaE (zaE HXR.out (i:=0) (.slice none 0 0)) (i:=1) (.slice none 0 0)
 obtain⟨q0,q1⟩:_/\_:=⟨(zaA hx 0).1,(zaA hx 1).1⟩
 rw[<- HXX.out]
 exact bodyPost_ret (v:=.tuple #[.agg #[.slice none 0 0,.slice none 0 0],.int .i64 1]) (by simp[results,Tryz.results15,go_sem,q0,q1]) rfl ⟨⟨by decide,rfl⟩,(HB1.out.setCell (p:=⟨y+3,0,none⟩) (by show w.heap.size<=y+3;omega) _).setCell (p:=⟨y+3,1,none⟩) (by show w.heap.size<=y+3;omega) _⟩
theorem rstep_any {w:World}{V:EV}{E:EnvP}{s:Stk}{v lab:Value}{i:Ins.Ins}(hE:EnvOk elGD w V E)(hS:StIs elD w v s)(hz:s.vals.length<=290000/\s.cs.length<=290000)(hF:FnBd E)(hL:Ins.SlI w lab i.L):Calls Tryz.prog 15 #[evV V E,v,.agg #[.int .i64 i.op,.int .i64 i.A,.int .i64 i.B,.int .u64 i.K,lab]] w (RStepEnds w (stepR E i s)):=by
 obtain⟨P,n,c,Q,m,d,rfl⟩:=StIs.form (T:=elD) hS
 obtain⟨PL,cL,rfl,_⟩:=id hL
 obtain⟨op,A,B,K,LL⟩:=i
 unfold stepR
 cases hs:sane s with
 | false=>
  rw[if_pos rfl]
  exact rstep_ns hE hS hz hF hL hs
 | true=>
  rw[if_neg (by decide)]
  cases hi:Ins.saneI ⟨op,A,B,K,LL⟩ with
  | false=>
   rw[if_pos rfl]
   exact rstep_ni hE hS hz hF hL hs hi
  | true=>
   rw[if_neg (by decide)]
   exact rtake_any hE hS hz hF hL hs hi
def stOf:Rs->Stk
 | .ok s=>s
 | .er _=>none_
def codeOf:Rs->Int
 | .ok _=>0
 | .er c=>c
theorem stepE {w w':World}{x:Rs}{e:Ending}(h:StepEnds w x e w'):∃P n c Q m d,e= .returned (.tuple #[.agg #[.slice P n c,.slice Q m d],.int .i64 (codeOf x)])/\StIs elP w' (.agg #[.slice P n c,.slice Q m d]) (stOf x)/\Below w.heap.size w w':=by
 obtain⟨h,hb⟩:=h
 cases x with
 | ok s=>
  obtain⟨v,rfl,h2⟩:=h
  obtain⟨P,n,c,Q,m,d,rfl⟩:=StIs.form (T:=elP) h2
  exact⟨P,n,c,Q,m,d,rfl,h2,hb⟩
 | er c=>
  obtain⟨_,rfl⟩:=h
  exact⟨_,_,_,_,_,_,rfl,StIs.none_ elP w',hb⟩
theorem rstepE {w w':World}{x:Rs}{e:Ending}(h:RStepEnds w x e w'):∃P n c Q m d,e= .returned (.tuple #[.agg #[.slice P n c,.slice Q m d],.int .i64 (codeOf x)])/\StIs elD w' (.agg #[.slice P n c,.slice Q m d]) (stOf x)/\Below w.heap.size w w':=by
 obtain⟨h,hb⟩:=h
 cases x with
 | ok s=>
  obtain⟨v,rfl,h2⟩:=h
  obtain⟨P,n,c,Q,m,d,rfl⟩:=StIs.form (T:=elD) h2
  exact⟨P,n,c,Q,m,d,rfl,h2,hb⟩
 | er c=>
  obtain⟨_,rfl⟩:=h
  exact⟨_,_,_,_,_,_,rfl,StIs.none_ elD w',hb⟩
theorem step_le {E:EnvP}{i:Ins.Ins}{s:Stk}(hF:FnBd E)(h:Bd (.ok s) 300):(stOf (stepR E i s)).cs.length<=400000:=by
 have hb:Bd (stepR E i s) (300+1001):=by
  unfold stepR
  exact Bd.ite (Bd.er _ _) (Bd.ite (Bd.er _ _) (h.take hF))
 cases hx:stepR E i s with
 | ok t=>
  rw[hx] at hb
  have:=(hb t rfl).2
  show t.cs.length<=400000
  omega
 | er c=>exact Nat.zero_le _
def CodeOk (x:Rs):Prop:=∀c,x= .er c->c≠0
theorem rstepC {w w':World}{x:Rs}{e:Ending}(h:RStepEnds w x e w'):∃P n c Q m d,e= .returned (.tuple #[.agg #[.slice P n c,.slice Q m d],.int .i64 (codeOf x)])/\StIs elD w' (.agg #[.slice P n c,.slice Q m d]) (stOf x)/\Below w.heap.size w w'/\CodeOk x:=by
 have hc:CodeOk x:=fun c hc=>by
  subst hc
  exact h.1.1
 obtain⟨P,n,c,Q,m,d,h1,h2,h3⟩:=rstepE h
 exact⟨P,n,c,Q,m,d,h1,h2,h3,hc⟩
theorem cells7v {w:World}{y:Nat}{a b c d e f g:Value}{t:TypeId}(h:w.heap[y]? = some (.cells #[a,b,c,d,e,f,g] t (0,0))):w.cell? ⟨y,0,none⟩=some a/\w.cell? ⟨y,1,none⟩=some b/\w.cell? ⟨y,2,none⟩=some c/\w.cell? ⟨y,3,none⟩=some d/\w.cell? ⟨y,4,none⟩=some e/\w.cell? ⟨y,5,none⟩=some f/\w.cell? ⟨y,6,none⟩=some g:=
 ⟨(zaA h 0).1,(zaA h 1).1,(zaA h 2).1,(zaA h 3).1,(zaA h 4).1,(zaA h 5).1,(zaA h 6).1⟩
theorem below_dr {B:Nat}{w w':World}(h:Below B w w'):Below B w w'.drew:=⟨h.os,h.tape,h.output,h.size,h.block⟩
theorem env_any {w:World}{V:EV}{E:EnvP}(h:EnvOk elGD w V E)(hn:E.globs.length<=1000):
  Calls Tryz.prog 13 #[evV V E] w fun e w'=>(∃Pg ng cg,e= .returned (evV { V with Pg:=Pg,ng:=ng,cg:=cg } E)/\EnvOk elGP w' { V with Pg:=Pg,ng:=ng,cg:=cg } E)/\Below w.heap.size w w':=by
 obtain⟨⟨ts,hts,hmt⟩,hf,hg,hl,hr,hit,him⟩:=h
 obtain⟨types,funcs,tb,mm,globs,locals,ress⟩:=E
 obtain⟨Pt,nt,ct,Pf,nf,cf,Pg,m,cg,Pl,nl,cl,Pr,nr,cr⟩:=V
 simp only at hts hmt hf hg hl hr hn hit him
 have hm:globs.length=m:=by
  obtain⟨_,_,e,_⟩:=hg.form
  injection e with _ e
  exact e.symm
 have HNL:=jq hm
 have HNB:Hid (m<=1000):=jq (by omega)
 have HTS:=jq hts
 have HMT:=jq hmt
 have HF:=jq hf
 have HG:=jq hg
 have HL:=jq hl
 have HRR:=jq hr
 have HIT:=jq hit
 have HIM:=jq him
 have HB3:Hid (Below w.heap.size w (((w.alloc (.cells #[.slice Pt nt ct,.slice Pf nf cf,.int .i64 tb,.int .i64 mm,.slice Pg m cg,.slice Pl nl cl,.slice Pr nr cr] 27)).alloc (.cells #[.slice none 0 0,.slice none 0 0,.int .i64 0,.int .i64 0,.slice none 0 0,.slice none 0 0,.slice none 0 0] 45)).alloc (.cells #[.slice Pt nt ct,.slice Pf nf cf,.int .i64 tb,.int .i64 mm,.slice none 0 0,.slice Pl nl cl,.slice Pr nr cr] 45))):=Stk.below3 w (.cells #[.slice Pt nt ct,.slice Pf nf cf,.int .i64 tb,.int .i64 mm,.slice Pg m cg,.slice Pl nl cl,.slice Pr nr cr] 27) (.cells #[.slice none 0 0,.slice none 0 0,.int .i64 0,.int .i64 0,.slice none 0 0,.slice none 0 0,.slice none 0 0] 45) (.cells #[.slice Pt nt ct,.slice Pf nf cf,.int .i64 tb,.int .i64 mm,.slice none 0 0,.slice Pl nl cl,.slice Pr nr cr] 45)
 have HX0:Hid ((((w.alloc (.cells #[.slice Pt nt ct,.slice Pf nf cf,.int .i64 tb,.int .i64 mm,.slice Pg m cg,.slice Pl nl cl,.slice Pr nr cr] 27)).alloc (.cells #[.slice none 0 0,.slice none 0 0,.int .i64 0,.int .i64 0,.slice none 0 0,.slice none 0 0,.slice none 0 0] 45)).alloc (.cells #[.slice Pt nt ct,.slice Pf nf cf,.int .i64 tb,.int .i64 mm,.slice none 0 0,.slice Pl nl cl,.slice Pr nr cr] 45)).heap[w.heap.size]? = some (.cells #[.slice Pt nt ct,.slice Pf nf cf,.int .i64 tb,.int .i64 mm,.slice Pg m cg,.slice Pl nl cl,.slice Pr nr cr] 27 (0,0))):=by
  show _=_
  rw[(below2 (w.alloc (.cells #[.slice Pt nt ct,.slice Pf nf cf,.int .i64 tb,.int .i64 mm,.slice Pg m cg,.slice Pl nl cl,.slice Pr nr cr] 27)) (.cells #[.slice none 0 0,.slice none 0 0,.int .i64 0,.int .i64 0,.slice none 0 0,.slice none 0 0,.slice none 0 0] 45) (.cells #[.slice Pt nt ct,.slice Pf nf cf,.int .i64 tb,.int .i64 mm,.slice none 0 0,.slice Pl nl cl,.slice Pr nr cr] 45)).block w.heap.size (by rw[zaD];omega)]
  exact zaC w _
 have HR0:Hid ((((w.alloc (.cells #[.slice Pt nt ct,.slice Pf nf cf,.int .i64 tb,.int .i64 mm,.slice Pg m cg,.slice Pl nl cl,.slice Pr nr cr] 27)).alloc (.cells #[.slice none 0 0,.slice none 0 0,.int .i64 0,.int .i64 0,.slice none 0 0,.slice none 0 0,.slice none 0 0] 45)).alloc (.cells #[.slice Pt nt ct,.slice Pf nf cf,.int .i64 tb,.int .i64 mm,.slice none 0 0,.slice Pl nl cl,.slice Pr nr cr] 45)).heap[w.heap.size+1]? = some (.cells #[.slice none 0 0,.slice none 0 0,.int .i64 0,.int .i64 0,.slice none 0 0,.slice none 0 0,.slice none 0 0] 45 (0,0))):=by
  show _=_
  rw[(zaB ((w.alloc (.cells #[.slice Pt nt ct,.slice Pf nf cf,.int .i64 tb,.int .i64 mm,.slice Pg m cg,.slice Pl nl cl,.slice Pr nr cr] 27)).alloc (.cells #[.slice none 0 0,.slice none 0 0,.int .i64 0,.int .i64 0,.slice none 0 0,.slice none 0 0,.slice none 0 0] 45)) (.cells #[.slice Pt nt ct,.slice Pf nf cf,.int .i64 tb,.int .i64 mm,.slice none 0 0,.slice Pl nl cl,.slice Pr nr cr] 45)).block (w.heap.size+1) (by rw[zaD,zaD];omega)]
  have:=zaC (w.alloc (.cells #[.slice Pt nt ct,.slice Pf nf cf,.int .i64 tb,.int .i64 mm,.slice Pg m cg,.slice Pl nl cl,.slice Pr nr cr] 27)) (.cells #[.slice none 0 0,.slice none 0 0,.int .i64 0,.int .i64 0,.slice none 0 0,.slice none 0 0,.slice none 0 0] 45)
  rw[zaD] at this
  exact this
 have HO0:=jq (zaC ((w.alloc (.cells #[.slice Pt nt ct,.slice Pf nf cf,.int .i64 tb,.int .i64 mm,.slice Pg m cg,.slice Pl nl cl,.slice Pr nr cr] 27)).alloc (.cells #[.slice none 0 0,.slice none 0 0,.int .i64 0,.int .i64 0,.slice none 0 0,.slice none 0 0,.slice none 0 0] 45)) (.cells #[.slice Pt nt ct,.slice Pf nf cf,.int .i64 tb,.int .i64 mm,.slice none 0 0,.slice Pl nl cl,.slice Pr nr cr] 45))
 simp only[zaD] at HO0
 clear hts hmt hf hg hl hr hm hn hit him
 have z3:=(zaA HX0.out 0).1
 show Calls _ _ #[.agg #[.slice Pt nt ct,.slice Pf nf cf,.int .i64 tb,.int .i64 mm,.slice Pg m cg,.slice Pl nl cl,.slice Pr nr cr]] _ _
 clear z3
 go_enter Tryz.func13,Tryz.ntmps13
 go_wp2_with fail
 generalize (((w.alloc (.cells #[.slice Pt nt ct,.slice Pf nf cf,.int .i64 tb,.int .i64 mm,.slice Pg m cg,.slice Pl nl cl,.slice Pr nr cr] 27)).alloc (.cells #[.slice none 0 0,.slice none 0 0,.int .i64 0,.int .i64 0,.slice none 0 0,.slice none 0 0,.slice none 0 0] 45)).alloc (.cells #[.slice Pt nt ct,.slice Pf nf cf,.int .i64 tb,.int .i64 mm,.slice none 0 0,.slice Pl nl cl,.slice Pr nr cr] 45))=w2 at *
 obtain⟨x,hx⟩:∃x,w.heap.size=x:=⟨_,rfl⟩
 obtain⟨r,hr⟩:∃r,x+1=r:=⟨_,rfl⟩
 obtain⟨o,ho⟩:∃o,r+1=o:=⟨_,rfl⟩
 rw[hx] at HX0 HR0 HO0 HB3
 rw[hr] at HR0 HO0
 rw[ho] at HO0
 have HXR:Hid (x<r/\r<o):=⟨by omega,by omega⟩
 simp only[hx]
 simp only[hr]
 simp only[ho]
 clear hr ho
 go_loopw [4] (fun i' wr=>∃ (i:Nat) (S:Option Addr) (k:Nat),i'= .int .i64 (i:Int)/\i<=m/\Below x w wr/\wr.heap[x]? = some (.cells #[.slice Pt nt ct,.slice Pf nf cf,.int .i64 tb,.int .i64 mm,.slice Pg m cg,.slice Pl nl cl,.slice Pr nr cr] 27 (0,0))/\wr.heap[r]? = some (.cells #[.slice none 0 0,.slice none 0 0,.int .i64 0,.int .i64 0,.slice none 0 0,.slice none 0 0,.slice none 0 0] 45 (0,0))/\wr.heap[o]? = some (.cells #[.slice Pt nt ct,.slice Pf nf cf,.int .i64 tb,.int .i64 mm,.slice S i k,.slice Pl nl cl,.slice Pr nr cr] 45 (0,0))/\Own elGP wr x (.slice S i k) (globs.take i)) (fun i' _=>m - (intOf i').toNat)
 case atStart=>exact ⟨0,none,0,by go_num,Nat.zero_le _,HB3.out,HX0.out,HR0.out,HO0.out,own_nil _ _ _⟩
 case round=>
  obtain⟨i,S,k,rfl,hi,hbe,hx0,hr0,ho0,hO⟩:=hrel
  have HBe:=jq hbe
  have HX:=jq hx0
  have HR:=jq hr0
  have HOo:=jq ho0
  have HOw:=jq hO
  obtain⟨a0,a1,a2,a3,a4,a5,a6⟩:=cells7v hx0
  obtain⟨o0,o1,o2,o3,o4,o5,o6⟩:=cells7v ho0
  have HWr:Hid (Below w.heap.size w wr):=by rw[hx];exact hbe
  clear hbe hx0 hr0 ho0 hO
  by_cases hlt:i<m
  ·obtain ⟨p,hp⟩:∃p,globs[i]? = some p:=⟨_,List.getElem?_eq_getElem (by rw[HNL.out];exact hlt)⟩
   obtain⟨g,off,rfl,hg,hC,hOk⟩:=(HG.out.keep HWr.out).at_ hp
   have htk:globs.take (i+1)=globs.take i ++ [p]:=by
    obtain⟨h1,h2⟩:=List.getElem?_eq_some_iff.1 hp
    rw[List.take_succ_eq_append_getElem h1,h2]
   have hil:(globs.take i).length+1=i+1:=by rw[List.length_take,HNL.out];omega
   obtain⟨gv,gm⟩:=p
   have k0:wr.cell? ⟨g,off+i*2,none⟩=some (.int .u8 gv):=hC 0 _ rfl
   have k1:wr.cell? ⟨g,off+i*2+1,none⟩=some (.bool gm):=hC 1 _ rfl
   have HOk:=jq hOk
   have HTK:=jq htk
   have HIL:=jq hil
   obtain⟨qq,hqq⟩:∃qq,off+i*2=qq:=⟨_,rfl⟩
   rw[hqq] at k0 k1
   have i1:(0:Int)<=(i:Int):=by omega
   have i2:(i:Int)<(m:Int):=by omega
   have hw1:IntKind.i64.wrap ((i:Int)+1)=(i:Int)+1:=IntWalk.i64_in _ (by have:=HNB.out;omega)
   have HD:=jq (zaI wr)
   have hxs:x<=wr.heap.size:=by rw[<- hx];exact HWr.out.size
   have hol:o<wr.heap.size:=jl HOo.out
   have hxl:x<wr.heap.size:=jl HX.out
   have hgl:=hg
   have HWN:=jq (zaB wr (.cells #[.int .u8 gv,.bool gm] 82))
   have HEND:Hid (∀g7 c7 w7,Own elGP w7 x (.slice (some ⟨g7,0,none⟩) (i+1) c7) (globs.take i ++ [(gv,gm)])->Below x (wr.alloc (.cells #[.int .u8 gv,.bool gm] 82)).drew w7->Chg (wr.alloc (.cells #[.int .u8 gv,.bool gm] 82)).drew w7 (Value.slice S i k).ownBlock->w7.heap[o]? = some (.cells #[.slice Pt nt ct,.slice Pf nf cf,.int .i64 tb,.int .i64 mm,.slice S i k,.slice Pl nl cl,.slice Pr nr cr] 45 (0,0))/\Below x w (w7.setCell ⟨o,4,none⟩ (.slice (some ⟨g7,0,none⟩) (i+1) c7))/\(w7.setCell ⟨o,4,none⟩ (.slice (some ⟨g7,0,none⟩) (i+1) c7)).heap[x]? = some (.cells #[.slice Pt nt ct,.slice Pf nf cf,.int .i64 tb,.int .i64 mm,.slice (some ⟨g,off,none⟩) m cg,.slice Pl nl cl,.slice Pr nr cr] 27 (0,0))/\(w7.setCell ⟨o,4,none⟩ (.slice (some ⟨g7,0,none⟩) (i+1) c7)).heap[r]? = some (.cells #[.slice none 0 0,.slice none 0 0,.int .i64 0,.int .i64 0,.slice none 0 0,.slice none 0 0,.slice none 0 0] 45 (0,0))/\(w7.setCell ⟨o,4,none⟩ (.slice (some ⟨g7,0,none⟩) (i+1) c7)).heap[o]? = some (.cells #[.slice Pt nt ct,.slice Pf nf cf,.int .i64 tb,.int .i64 mm,.slice (some ⟨g7,0,none⟩) (i+1) c7,.slice Pl nl cl,.slice Pr nr cr] 45 (0,0))/\Own elGP (w7.setCell ⟨o,4,none⟩ (.slice (some ⟨g7,0,none⟩) (i+1) c7)) x (.slice (some ⟨g7,0,none⟩) (i+1) c7) (globs.take (i+1))):=jq fun g7 c7 w7 ho7 hb7 hc7=>by
    have ho8:w7.heap[o]? = some (.cells #[.slice Pt nt ct,.slice Pf nf cf,.int .i64 tb,.int .i64 mm,.slice S i k,.slice Pl nl cl,.slice Pr nr cr] 45 (0,0)):=(hc7 o (Nat.lt_of_lt_of_le hol HWN.out.size) (fun e=>own_notB HOw.out HOo.out (by decide) e.symm rfl)).trans ((HWN.out.block o hol).trans HOo.out)
    have hx8:=(hc7 x (Nat.lt_of_lt_of_le hxl HWN.out.size) (fun e=>own_notB HOw.out HX.out (by decide) e.symm rfl)).trans ((HWN.out.block x hxl).trans HX.out)
    have hr8:=(hc7 r (Nat.lt_of_lt_of_le (jl HR.out) HWN.out.size) (fun e=>own_notB HOw.out HR.out (by decide) e.symm rfl)).trans ((HWN.out.block r (jl HR.out)).trans HR.out)
    refine⟨ho8,(((HBe.out.trans (HWN.out.mono hxs)).trans (show Below x (wr.alloc (.cells #[.int .u8 gv,.bool gm] 82)) (wr.alloc (.cells #[.int .u8 gv,.bool gm] 82)).drew from ⟨rfl,rfl,rfl,Nat.le_refl _,fun _ _=>rfl⟩)).trans hb7).setCell (p:=⟨o,4,none⟩) (by show x<=o;have:=HXR.out;omega) (.slice (some ⟨g7,0,none⟩) (i+1) c7),?_,?_,?_,?_⟩
    ·rw[chg_set w7 o 4 _ x (jl hx8) (by intro e;have:=HXR.out;have:=Option.some.inj e;omega)]
     exact hx8
    ·rw[chg_set w7 o 4 _ r (jl hr8) (by intro e;have:=HXR.out;have:=Option.some.inj e;omega)]
     exact hr8
    ·rw[zaE ho8]
     rfl
    ·rw[HTK.out]
     exact own_stay ho7 (w':=w7.setCell ⟨o,4,none⟩ (.slice (some ⟨g7,0,none⟩) (i+1) c7)) fun kk hkk=>chg_set w7 o 4 _ kk (World.ownsRow.lt ho7 kk hkk).2 (by intro e;exact own_notB ho7 ho8 (by decide) hkk (Option.some.inj e))
   have HXS:Hid (x<=(wr.alloc (.cells #[.int .u8 gv,.bool gm] 82)).drew.heap.size):=jq (Nat.le_trans hxs HWN.out.size)
   have HOwD:=jq (own_keep HOw.out (below_dr HWN.out))
   have HNLT:Hid (True):=jq trivial
   clear hp hg hOk htk hil hC HBe HX HR HWr HD HTK a0 a1 a2 a3 a5 a6 o0 o1 o2 o3 o5 o6 hxs hgl
   go_wp2_with fail
   go_region_law (first
    | (refine step_oneG elGP 43 Tryz.underlying43 (wr.alloc (.cells #[.int .u8 gv,.bool gm] 82)).drew rfl (.tmp 26) (.tmp 40) rfl x _ (globs.take i) (gv,gm) (i+1) HOk.out (by rfl) HOwD.out wr.heap.size (by rfl) (newG' elGP wr _ _ _ rfl rfl) HIL.out (by have:=HNB.out;omega) (by decide) HXS.out ?_;intro g7 c7 w7 ho7 hb7 hc7;have HF7:=jq (HEND.out g7 c7 w7 ho7 hb7 hc7);clear ho7 hb7 hc7;obtain ⟨r0,r1,r2,r3,r4,r5,r6⟩:=cells7v HF7.out.1;have f1:=(zaA HF7.out.1 4).2;clear r0 r1 r2 r3 r5 r6))
   all_goals (
    clear HEND HXS HOwD k0 k1
    go_wp2_with fail
    go_roundw
    case rel=>exact ⟨i+1,some ⟨g7,0,none⟩,c7,by go_num,hlt,HF7.out.2.1,HF7.out.2.2.1,HF7.out.2.2.2.1,HF7.out.2.2.2.2.1,HF7.out.2.2.2.2.2⟩
    case measure=>simp[intOf];omega)
  ·obtain rfl:i=m:=by omega
   have HTK:Hid (globs.take i=globs):=List.take_of_length_le (by rw[HNL.out];exact Nat.le_refl _)
   rw[HTK.out] at HOw
   obtain⟨q0,q1,q2,q3,q4,q5,q6⟩:=cells7v HR.out
   obtain⟨p0,p1,p2,p3,p4,p5,p6⟩:_/\_/\_/\_/\_/\_/\_:=⟨(zaA HR.out 0).2,(zaA HR.out 1).2,(zaA HR.out 2).2,(zaA HR.out 3).2,(zaA HR.out 4).2,(zaA HR.out 5).2,(zaA HR.out 6).2⟩
   have NE:o≠r:=by have:=HXR.out;omega
   go_wp2_with fail
   have hf:(((((((wr.setCell ⟨r,0,none⟩ (.slice Pt nt ct)).setCell ⟨r,1,none⟩ (.slice Pf nf cf)).setCell ⟨r,2,none⟩ (.int .i64 tb)).setCell ⟨r,3,none⟩ (.int .i64 mm)).setCell ⟨r,4,none⟩ (.slice S i k)).setCell ⟨r,5,none⟩ (.slice Pl nl cl)).setCell ⟨r,6,none⟩ (.slice Pr nr cr)).heap[r]? = some (.cells #[.slice Pt nt ct,.slice Pf nf cf,.int .i64 tb,.int .i64 mm,.slice S i k,.slice Pl nl cl,.slice Pr nr cr] 45 (0,0)):=by
    rw[zaE (zaE (zaE (zaE (zaE (zaE (zaE HR.out _) _) _) _) _) _) _]
    rfl
   have hB:Below x w (((((((wr.setCell ⟨r,0,none⟩ (.slice Pt nt ct)).setCell ⟨r,1,none⟩ (.slice Pf nf cf)).setCell ⟨r,2,none⟩ (.int .i64 tb)).setCell ⟨r,3,none⟩ (.int .i64 mm)).setCell ⟨r,4,none⟩ (.slice S i k)).setCell ⟨r,5,none⟩ (.slice Pl nl cl)).setCell ⟨r,6,none⟩ (.slice Pr nr cr)):=(((((((HBe.out).setCell (p:=⟨r,0,none⟩) (show x<=r by have:=HXR.out;omega) (.slice Pt nt ct)).setCell (p:=⟨r,1,none⟩) (show x<=r by have:=HXR.out;omega) (.slice Pf nf cf)).setCell (p:=⟨r,2,none⟩) (show x<=r by have:=HXR.out;omega) (.int .i64 tb)).setCell (p:=⟨r,3,none⟩) (show x<=r by have:=HXR.out;omega) (.int .i64 mm)).setCell (p:=⟨r,4,none⟩) (show x<=r by have:=HXR.out;omega) (.slice S i k)).setCell (p:=⟨r,5,none⟩) (show x<=r by have:=HXR.out;omega) (.slice Pl nl cl)).setCell (p:=⟨r,6,none⟩) (show x<=r by have:=HXR.out;omega) (.slice Pr nr cr)
   have hOw:Own elGP (((((((wr.setCell ⟨r,0,none⟩ (.slice Pt nt ct)).setCell ⟨r,1,none⟩ (.slice Pf nf cf)).setCell ⟨r,2,none⟩ (.int .i64 tb)).setCell ⟨r,3,none⟩ (.int .i64 mm)).setCell ⟨r,4,none⟩ (.slice S i k)).setCell ⟨r,5,none⟩ (.slice Pl nl cl)).setCell ⟨r,6,none⟩ (.slice Pr nr cr)) x (.slice S i k) globs:=own_stay HOw.out (w':=(((((((wr.setCell ⟨r,0,none⟩ (.slice Pt nt ct)).setCell ⟨r,1,none⟩ (.slice Pf nf cf)).setCell ⟨r,2,none⟩ (.int .i64 tb)).setCell ⟨r,3,none⟩ (.int .i64 mm)).setCell ⟨r,4,none⟩ (.slice S i k)).setCell ⟨r,5,none⟩ (.slice Pl nl cl)).setCell ⟨r,6,none⟩ (.slice Pr nr cr))) fun kk hkk=>by
    have hne:kk≠r:=fun e=>own_notB HOw.out HR.out (by decide) (by rw[<- e];exact hkk) rfl
    have hlt:=(World.ownsRow.lt HOw.out kk hkk).2
    exact(((((((chg_set ((((((wr.setCell ⟨r,0,none⟩ (.slice Pt nt ct)).setCell ⟨r,1,none⟩ (.slice Pf nf cf)).setCell ⟨r,2,none⟩ (.int .i64 tb)).setCell ⟨r,3,none⟩ (.int .i64 mm)).setCell ⟨r,4,none⟩ (.slice S i k)).setCell ⟨r,5,none⟩ (.slice Pl nl cl)) r 6 (.slice Pr nr cr) kk (by (try simp only[zaJ]);exact hlt) (by intro e;exact hne (Option.some.inj e)))).trans (chg_set (((((wr.setCell ⟨r,0,none⟩ (.slice Pt nt ct)).setCell ⟨r,1,none⟩ (.slice Pf nf cf)).setCell ⟨r,2,none⟩ (.int .i64 tb)).setCell ⟨r,3,none⟩ (.int .i64 mm)).setCell ⟨r,4,none⟩ (.slice S i k)) r 5 (.slice Pl nl cl) kk (by (try simp only[zaJ]);exact hlt) (by intro e;exact hne (Option.some.inj e)))).trans (chg_set ((((wr.setCell ⟨r,0,none⟩ (.slice Pt nt ct)).setCell ⟨r,1,none⟩ (.slice Pf nf cf)).setCell ⟨r,2,none⟩ (.int .i64 tb)).setCell ⟨r,3,none⟩ (.int .i64 mm)) r 4 (.slice S i k) kk (by (try simp only[zaJ]);exact hlt) (by intro e;exact hne (Option.some.inj e)))).trans (chg_set (((wr.setCell ⟨r,0,none⟩ (.slice Pt nt ct)).setCell ⟨r,1,none⟩ (.slice Pf nf cf)).setCell ⟨r,2,none⟩ (.int .i64 tb)) r 3 (.int .i64 mm) kk (by (try simp only[zaJ]);exact hlt) (by intro e;exact hne (Option.some.inj e)))).trans (chg_set ((wr.setCell ⟨r,0,none⟩ (.slice Pt nt ct)).setCell ⟨r,1,none⟩ (.slice Pf nf cf)) r 2 (.int .i64 tb) kk (by (try simp only[zaJ]);exact hlt) (by intro e;exact hne (Option.some.inj e)))).trans (chg_set (wr.setCell ⟨r,0,none⟩ (.slice Pt nt ct)) r 1 (.slice Pf nf cf) kk (by (try simp only[zaJ]);exact hlt) (by intro e;exact hne (Option.some.inj e)))).trans (chg_set wr r 0 (.slice Pt nt ct) kk (by (try simp only[zaJ]);exact hlt) (by intro e;exact hne (Option.some.inj e)))
   have hGok:∀p∈globs,elGP.ok w p:=HG.out.2
   generalize (((((((wr.setCell ⟨r,0,none⟩ (.slice Pt nt ct)).setCell ⟨r,1,none⟩ (.slice Pf nf cf)).setCell ⟨r,2,none⟩ (.int .i64 tb)).setCell ⟨r,3,none⟩ (.int .i64 mm)).setCell ⟨r,4,none⟩ (.slice S i k)).setCell ⟨r,5,none⟩ (.slice Pl nl cl)).setCell ⟨r,6,none⟩ (.slice Pr nr cr))=wf at *
   obtain⟨f0,f1,f2,f3,f4,f5,f6⟩:=cells7v hf
   clear q0 q1 q2 q3 q4 q5 q6 p0 p1 p2 p3 p4 p5 p6
   have hW:Below w.heap.size w wf:=by rw[hx];exact hB
   refine bodyPost_ret (v:=.agg #[.slice Pt nt ct,.slice Pf nf cf,.int .i64 tb,.int .i64 mm,.slice S i k,.slice Pl nl cl,.slice Pr nr cr]) (by simp[results,Tryz.results13,go_sem,f0,f1,f2,f3,f4,f5,f6]) rfl ⟨⟨S,i,k,rfl,⟨⟨ts,HTS.out.keep hW,HMT.out⟩,HF.out.keep hW,?_,HL.out.keep hW,HRR.out.keep hW,HIT.out,HIM.out⟩⟩,hW⟩
   exact hOw.row hGok
theorem env_c:EnvC:=fun w V E h hn=>(env_any h hn).mono fun e w' ⟨⟨Pg,ng,cg,h1,h2⟩,hb⟩=>⟨⟨_,h1,h2⟩,hb⟩
end Go.Proofs.YtlappkflnlbfcaaGreatDoor.Chk
