import Derived.Test.YtlappkflnlbfcaaGreatDoorPkChkClose
import Derived.Test.YtlappkflnlbfcaaGreatDoorPkStackDeadWalk
import Derived.Deep.RegionLaw
namespace Go.Proofs.YtlappkflnlbfcaaGreatDoor.Chk
open Go renaming bodyPost_ret → jr
open Lib renaming hid → jq
open Go.RowKit Row9 Stk
set_option maxRecDepth 100000
set_option maxHeartbeats 4000000
set_option linter.unusedVariables false
theorem atL_neg {α:Type}{l:List α}{n:Int}(h:n<0):atL l n=none:=if_pos h
theorem atL_out {α:Type}{l:List α}{n:Int}(h:(l.length:Int)<=n):atL l n=none:=by
 unfold atL
 rw[if_neg (by omega),List.getElem?_eq_none_iff.2 (by omega)]
theorem atL_in {α:Type}{l:List α}{k:Nat}{p:α}(h:l[k]? = some p):atL l (k:Int)=some p:=by
 unfold atL
 rw[if_neg (by omega)]
 exact h
theorem at_cases {α:Type}(l:List α)(n:Int):n<0\/(¬ n<0/\(l.length:Int)<=n)\/∃ (k:Nat) (p:α),n=(k:Int)/\k<l.length/\l[k]? = some p:=by
 by_cases h:n<0
 ·exact .inl h
 ·by_cases h2:(l.length:Int)<=n
  ·exact .inr (.inl ⟨h,h2⟩)
  ·obtain ⟨k,rfl⟩:∃k:Nat,n=(k:Int):=⟨n.toNat,by omega⟩
   exact .inr (.inr ⟨k,_,rfl,by omega,List.getElem?_eq_getElem (by omega)⟩)
theorem at_int {w:World}{v:Value}{l:List Int}{n:Int}(h:Row elI w v l):Calls Tryz.prog 42 #[v,.int .i64 n] w fun e w'=>e= .returned (.tuple #[.int .i64 ((atL l n).getD 0),.bool (atL l n).isSome])/\w'=w:=by
 obtain⟨A,c,rfl,_⟩:=h.form
 obtain⟨m,hm⟩:∃m,l.length=m:=⟨_,rfl⟩
 have HC:=jq h
 rcases at_cases l n with h1 | ⟨h1,h2⟩ | ⟨k,p,rfl,h1,h2⟩
 ·rw[atL_neg h1]
  have t1:decide (n<0)=true:=decide_eq_true h1
  clear h h1
  rw[hm]
  clear hm HC
  go_enter Tryz.func42,Tryz.ntmps42
  go_wp2_with fail
  exact jr (v:=.tuple #[.int .i64 0,.bool false]) (by simp[results,Tryz.results42,go_sem]) rfl ⟨rfl,rfl⟩
 ·rw[atL_out h2]
  rw[hm] at h2 ⊢
  have t1:decide (n<0)=false:=decide_eq_false h1
  have t2:decide ((m:Int)<=n)=true:=decide_eq_true h2
  clear h h1 h2 hm HC
  go_enter Tryz.func42,Tryz.ntmps42
  go_wp2_with fail
  exact jr (v:=.tuple #[.int .i64 0,.bool false]) (by simp[results,Tryz.results42,go_sem]) rfl ⟨rfl,rfl⟩
 ·rw[atL_in h2]
  obtain⟨g,off,rfl,hg,hA,hok⟩:=h.at_ h2
  have c0:=hA 0 _ rfl
  obtain⟨q,hq⟩:∃q,off+k*elI.s=q:=⟨_,rfl⟩
  rw[hq] at c0
  simp only[Nat.add_zero] at c0
  have hq:off+k=q:=by rw[<- hq];show off+k=off+k*1;omega
  rw[hm] at h1 ⊢
  have t1:decide ((k:Int)<0)=false:=decide_eq_false (by omega)
  have t2:decide ((m:Int)<=(k:Int))=false:=decide_eq_false (by omega)
  have t2':decide (m<=k)=false:=decide_eq_false (by omega)
  have i1:(0:Int)<=(k:Int):=by omega
  have i2:(k:Int)<(m:Int):=by omega
  clear h h1 h2 hm HC hA hok hg
  go_enter Tryz.func42,Tryz.ntmps42
  go_wp2_with fail
  exact jr (v:=.tuple #[.int .i64 p,.bool true]) (by simp[results,Tryz.results42,go_sem]) rfl ⟨rfl,rfl⟩
theorem at_byte {w:World}{v:Value}{l:List Int}{n:Int}(h:Row elB w v l):Calls Tryz.prog 158 #[v,.int .i64 n] w fun e w'=>e= .returned (.tuple #[.int .u8 ((atL l n).getD 0),.bool (atL l n).isSome])/\w'=w:=by
 obtain⟨A,c,rfl,_⟩:=h.form
 obtain⟨m,hm⟩:∃m,l.length=m:=⟨_,rfl⟩
 have HC:=jq h
 rcases at_cases l n with h1 | ⟨h1,h2⟩ | ⟨k,p,rfl,h1,h2⟩
 ·rw[atL_neg h1]
  have t1:decide (n<0)=true:=decide_eq_true h1
  clear h h1
  rw[hm]
  clear hm HC
  go_enter Tryz.func158,Tryz.ntmps158
  go_wp2_with fail
  exact jr (v:=.tuple #[.int .u8 0,.bool false]) (by simp[results,Tryz.results158,go_sem]) rfl ⟨rfl,rfl⟩
 ·rw[atL_out h2]
  rw[hm] at h2 ⊢
  have t1:decide (n<0)=false:=decide_eq_false h1
  have t2:decide ((m:Int)<=n)=true:=decide_eq_true h2
  clear h h1 h2 hm HC
  go_enter Tryz.func158,Tryz.ntmps158
  go_wp2_with fail
  exact jr (v:=.tuple #[.int .u8 0,.bool false]) (by simp[results,Tryz.results158,go_sem]) rfl ⟨rfl,rfl⟩
 ·rw[atL_in h2]
  obtain⟨g,off,rfl,hg,hA,hok⟩:=h.at_ h2
  have c0:=hA 0 _ rfl
  obtain⟨q,hq⟩:∃q,off+k*elB.s=q:=⟨_,rfl⟩
  rw[hq] at c0
  simp only[Nat.add_zero] at c0
  have hq:off+k=q:=by rw[<- hq];show off+k=off+k*1;omega
  rw[hm] at h1 ⊢
  have t1:decide ((k:Int)<0)=false:=decide_eq_false (by omega)
  have t2:decide ((m:Int)<=(k:Int))=false:=decide_eq_false (by omega)
  have t2':decide (m<=k)=false:=decide_eq_false (by omega)
  have i1:(0:Int)<=(k:Int):=by omega
  have i2:(k:Int)<(m:Int):=by omega
  clear h h1 h2 hm HC hA hok hg
  go_enter Tryz.func158,Tryz.ntmps158
  go_wp2_with fail
  exact jr (v:=.tuple #[.int .u8 p,.bool true]) (by simp[results,Tryz.results158,go_sem]) rfl ⟨rfl,rfl⟩
theorem at_glob {w:World}{v:Value}{l:List (Int×Bool)}{n:Int}(h:Row elGP w v l):Calls Tryz.prog 159 #[v,.int .i64 n] w fun e w'=>(∃p:(Int×Bool),(atL l n).getD (0,false)=p/\e= .returned (.tuple #[.agg #[.int .u8 p.1,.bool p.2],.bool (atL l n).isSome]))/\Below w.heap.size w w':=by
 obtain⟨A,c,rfl,_⟩:=h.form
 obtain⟨m,hm⟩:∃m,l.length=m:=⟨_,rfl⟩
 have HB1:=jq (zaB w (.cells #[.int .u8 0,.bool false] 82))
 have HZ1:=jq (zaC w (.cells #[.int .u8 0,.bool false] 82))
 have HB2:=jq (below2 w (.cells #[.int .u8 0,.bool false] 82) (.cells #[.int .u8 0,.bool false] 82))
 have HZ2:=jq (blk HZ1.out (zaB (w.alloc (.cells #[.int .u8 0,.bool false] 82)) (.cells #[.int .u8 0,.bool false] 82)))
 rcases at_cases l n with h1 | ⟨h1,h2⟩ | ⟨k,p,rfl,h1,h2⟩
 ·rw[atL_neg h1]
  have t1:decide (n<0)=true:=decide_eq_true h1
  clear h h1
  rw[hm]
  clear hm
  go_enter Tryz.func159,Tryz.ntmps159
  go_wp2_with fail
  obtain⟨f0,f1⟩:=zaH HZ2.out
  exact jr (v:=.tuple #[.agg #[.int .u8 0,.bool false],.bool false]) (by simp[results,Tryz.results159,go_sem,f0,f1]) rfl ⟨⟨(0,false),rfl,rfl⟩,HB2.out⟩
 ·rw[atL_out h2]
  rw[hm] at h2 ⊢
  have t1:decide (n<0)=false:=decide_eq_false h1
  have t2:decide ((m:Int)<=n)=true:=decide_eq_true h2
  clear h h1 h2 hm
  go_enter Tryz.func159,Tryz.ntmps159
  go_wp2_with fail
  obtain⟨f0,f1⟩:=zaH HZ2.out
  exact jr (v:=.tuple #[.agg #[.int .u8 0,.bool false],.bool false]) (by simp[results,Tryz.results159,go_sem,f0,f1]) rfl ⟨⟨(0,false),rfl,rfl⟩,HB2.out⟩
 ·rw[atL_in h2]
  obtain⟨g,off,rfl,hg,hA,hok⟩:=(h.keep HB1.out).at_ h2
  have c0:=hA 0 _ rfl
  have c1:=hA 1 _ rfl
  obtain⟨q,hq⟩:∃q,off+k*elGP.s=q:=⟨_,rfl⟩
  rw[hq] at c0 c1
  simp only[Nat.add_zero] at c0
  have hq:off+k*2=q:=hq
  rw[hm] at h1 ⊢
  have t1:decide ((k:Int)<0)=false:=decide_eq_false (by omega)
  have t2:decide ((m:Int)<=(k:Int))=false:=decide_eq_false (by omega)
  have t2':decide (m<=k)=false:=decide_eq_false (by omega)
  have i1:(0:Int)<=(k:Int):=by omega
  have i2:(k:Int)<(m:Int):=by omega
  skip
  have HBS:=jq (zaB w (.cells #[.int .u8 p.1,.bool p.2] 82))
  have HZS:=jq (zaC w (.cells #[.int .u8 p.1,.bool p.2] 82))
  clear h h1 h2 hm hA hok hg
  go_enter Tryz.func159,Tryz.ntmps159
  go_wp2_with fail
  obtain⟨f0,f1⟩:=zaH HZS.out
  exact jr (v:=.tuple #[.agg #[.int .u8 p.1,.bool p.2],.bool true]) (by simp[results,Tryz.results159,go_sem,f0,f1]) rfl ⟨⟨_,rfl,rfl⟩,HBS.out⟩
theorem fn_form {w:World}{p:FnV}(h:FnOk w p):∃P n c Q m d,p.2.1= .slice P n c/\p.2.2= .slice Q m d:=by
 obtain⟨P,c,e1,_⟩:=h.1.form
 obtain⟨Q,d,e2,_⟩:=h.2.form
 exact⟨P,_,c,Q,_,d,e1,e2⟩
def FnTold (w:World)(f:List Int×List Int)(ok:Bool)(e:Ending)(w':World):Prop:=(∃P n c Q m d,e= .returned (.tuple #[.agg #[.slice P n c,.slice Q m d],.bool ok])/\Row elB w' (.slice P n c) f.1/\Row elB w' (.slice Q m d) f.2)/\Below w.heap.size w w'
theorem at_fn {w:World}{v:Value}{ts:List FnV}{n:Int}(h:Row elF w v ts):Calls Tryz.prog 43 #[v,.int .i64 n] w (FnTold w ((atL (ts.map (·.1)) n).getD ([],[])) (atL (ts.map (·.1)) n).isSome):=by
 obtain⟨A,c,rfl,_⟩:=h.form
 obtain⟨m,hm⟩:∃m,ts.length=m:=⟨_,rfl⟩
 have HB1:=jq (zaB w (.cells #[.slice none 0 0,.slice none 0 0] 51))
 have HZ1:=jq (zaC w (.cells #[.slice none 0 0,.slice none 0 0] 51))
 have HB2:=jq (below2 w (.cells #[.slice none 0 0,.slice none 0 0] 51) (.cells #[.slice none 0 0,.slice none 0 0] 51))
 have HZ2:=jq (blk HZ1.out (zaB (w.alloc (.cells #[.slice none 0 0,.slice none 0 0] 51)) (.cells #[.slice none 0 0,.slice none 0 0] 51)))
 rcases at_cases ts n with h1 | ⟨h1,h2⟩ | ⟨k,p,rfl,h1,h2⟩
 ·rw[atL_neg h1]
  have t1:decide (n<0)=true:=decide_eq_true h1
  clear h h1
  rw[hm]
  clear hm
  go_enter Tryz.func43,Tryz.ntmps43
  go_wp2_with fail
  obtain⟨f0,f1⟩:=zaH HZ2.out
  exact jr (v:=.tuple #[.agg #[.slice none 0 0,.slice none 0 0],.bool false]) (by simp[results,Tryz.results43,go_sem,f0,f1]) rfl ⟨⟨_,_,_,_,_,_,rfl,Row.nil _ _,Row.nil _ _⟩,HB2.out⟩
 ·rw[atL_out (l:=ts.map (·.1)) (by rw[List.length_map];exact h2)]
  rw[hm] at h2 ⊢
  have t1:decide (n<0)=false:=decide_eq_false h1
  have t2:decide ((m:Int)<=n)=true:=decide_eq_true h2
  clear h h1 h2 hm
  go_enter Tryz.func43,Tryz.ntmps43
  go_wp2_with fail
  obtain⟨f0,f1⟩:=zaH HZ2.out
  exact jr (v:=.tuple #[.agg #[.slice none 0 0,.slice none 0 0],.bool false]) (by simp[results,Tryz.results43,go_sem,f0,f1]) rfl ⟨⟨_,_,_,_,_,_,rfl,Row.nil _ _,Row.nil _ _⟩,HB2.out⟩
 ·rw[atL_in (l:=ts.map (·.1)) (p:=p.1) (by rw[List.getElem?_map,h2];rfl)]
  obtain⟨g,off,rfl,hg,hA,hok⟩:=(h.keep HB1.out).at_ h2
  have hokw:FnOk w p:=h.2 p (List.mem_of_getElem? h2)
  have c0:=hA 0 _ rfl
  have c1:=hA 1 _ rfl
  obtain⟨q,hq⟩:∃q,off+k*elF.s=q:=⟨_,rfl⟩
  rw[hq] at c0 c1
  simp only[Nat.add_zero] at c0
  have hq:off+k*2=q:=hq
  obtain⟨⟨fp,fr⟩,v1,v2⟩:=p
  obtain⟨P1,n1,c1',Q1,m1,d1,e1,e2⟩:=fn_form hokw
  simp only at e1 e2 c0 c1
  subst e1 e2
  rw[hm] at h1 ⊢
  have t1:decide ((k:Int)<0)=false:=decide_eq_false (by omega)
  have t2:decide ((m:Int)<=(k:Int))=false:=decide_eq_false (by omega)
  have t2':decide (m<=k)=false:=decide_eq_false (by omega)
  have i1:(0:Int)<=(k:Int):=by omega
  have i2:(k:Int)<(m:Int):=by omega
  have HBS:=jq (zaB w (.cells #[.slice P1 n1 c1',.slice Q1 m1 d1] 51))
  have HZS:=jq (zaC w (.cells #[.slice P1 n1 c1',.slice Q1 m1 d1] 51))
  have HR:=jq (show FnOk _ ((fp,fr),(.slice P1 n1 c1',.slice Q1 m1 d1)) from elF.stay hokw HBS.out)
  clear h h1 h2 hm hA hok hokw hg
  go_enter Tryz.func43,Tryz.ntmps43
  go_wp2_with fail
  obtain⟨f0,f1⟩:=zaH HZS.out
  exact jr (v:=.tuple #[.agg #[.slice P1 n1 c1',.slice Q1 m1 d1],.bool true]) (by simp[results,Tryz.results43,go_sem,f0,f1]) rfl ⟨⟨_,_,_,_,_,_,rfl,HR.out.1,HR.out.2⟩,HBS.out⟩
def FnBd (E:EnvP):Prop:=(∀p∈E.types,p.1.length<=1000/\p.2.length<=1000)/\E.results.length<=1000
theorem atL_mem {α:Type}{l:List α}{n:Int}{p:α}(h:atL l n=some p):p∈l:=by
 unfold atL at h
 split at h
 ·cases h
 ·exact List.mem_of_getElem? h
theorem atL_bd {E:EnvP}(h:FnBd E)(n:Int):((atL E.types n).getD ([],[])).1.length<=1000/\((atL E.types n).getD ([],[])).2.length<=1000:=by
 cases hq:atL E.types n with
 | none=>exact ⟨Nat.zero_le _,Nat.zero_le _⟩
 | some p=>exact h.1 p (atL_mem hq)
theorem type_bd {E:EnvP}(h:FnBd E)(n:Int):((typeE E n).getD ([],[])).1.length<=1000/\((typeE E n).getD ([],[])).2.length<=1000:=by
 unfold typeE
 cases hq:atL E.funcs n with
 | none=>exact ⟨Nat.zero_le _,Nat.zero_le _⟩
 | some p=>exact atL_bd h p
theorem Type_any {T:El (Int×Bool)}{w:World}{V:EV}{E:EnvP}{f:Int}(h:EnvOk T w V E)(hB:FnBd E):Calls Tryz.prog 16 #[evV V E,.int .i64 f] w (FnTold w ((typeE E f).getD ([],[])) (typeE E f).isSome):=by
 obtain⟨⟨ts,hts,hmt⟩,hf,_⟩:=h
 obtain⟨types,funcs,tables,mems,globs,locals,ress⟩:=E
 obtain⟨Pt,nt,ct,Pf,nf,cf,Pg,ng,cg,Pl,nl,cl,Pr,nr,cr⟩:=V
 simp only at hts hmt hf
 subst hmt
 have HB2:=jq (below2 w (.cells #[.slice Pt nt ct,.slice Pf nf cf,.int .i64 tables,.int .i64 mems,.slice Pg ng cg,.slice Pl nl cl,.slice Pr nr cr] 45) (.cells #[.slice none 0 0,.slice none 0 0] 51))
 have HX:=jq (blk (zaC w (.cells #[.slice Pt nt ct,.slice Pf nf cf,.int .i64 tables,.int .i64 mems,.slice Pg ng cg,.slice Pl nl cl,.slice Pr nr cr] 45)) (zaB (w.alloc (.cells #[.slice Pt nt ct,.slice Pf nf cf,.int .i64 tables,.int .i64 mems,.slice Pg ng cg,.slice Pl nl cl,.slice Pr nr cr] 45)) (.cells #[.slice none 0 0,.slice none 0 0] 51)))
 have HR:=jq (zaC (w.alloc (.cells #[.slice Pt nt ct,.slice Pf nf cf,.int .i64 tables,.int .i64 mems,.slice Pg ng cg,.slice Pl nl cl,.slice Pr nr cr] 45)) (.cells #[.slice none 0 0,.slice none 0 0] 51))
 simp only[zaD] at HR
 have HT:=jq (hts.keep HB2.out)
 have HF:=jq (hf.keep HB2.out)
 have HFB:=jq hB
 have HD:Hid (typeE ⟨ts.map (·.1),funcs,tables,mems,globs,locals,ress⟩ f=(atL funcs f).bind fun n=>atL (ts.map (·.1)) n):=rfl
 obtain⟨R,hR⟩:∃R,typeE ⟨ts.map (·.1),funcs,tables,mems,globs,locals,ress⟩ f=R:=⟨_,rfl⟩
 rw[hR] at HD ⊢
 have HTB:=jq (hR ▸ type_bd (n:=f) hB)
 have hev:evV ⟨Pt,nt,ct,Pf,nf,cf,Pg,ng,cg,Pl,nl,cl,Pr,nr,cr⟩ ⟨ts.map (·.1),funcs,tables,mems,globs,locals,ress⟩= .agg #[.slice Pt nt ct,.slice Pf nf cf,.int .i64 tables,.int .i64 mems,.slice Pg ng cg,.slice Pl nl cl,.slice Pr nr cr]:=rfl
 rw[hev]
 clear hts hf hB hR hev
 have x0:=(zaA HX.out 0).1
 have x1:=(zaA HX.out 1).1
 simp only[List.getElem?_toArray,List.getElem?_cons_zero,List.getElem?_cons_succ] at x0 x1
 go_enter Tryz.func16,Tryz.ntmps16
 go_wp2_with fail
 clear x0 x1
 generalize (w.alloc (.cells #[.slice Pt nt ct,.slice Pf nf cf,.int .i64 tables,.int .i64 mems,.slice Pg ng cg,.slice Pl nl cl,.slice Pr nr cr] 45)).alloc (.cells #[.slice none 0 0,.slice none 0 0] 51)=w2 at *
 obtain⟨b,hb0⟩:∃b,w.heap.size=b:=⟨_,rfl⟩
 obtain⟨r,hr0⟩:∃r,b+1=r:=⟨_,rfl⟩
 have HBR:Hid (w.heap.size<=r):=jq (by omega)
 rw[hb0] at HX HR
 rw[hr0] at HR
 simp only[hb0]
 simp only[hr0]
 clear hb0 hr0
 refine(at_int HF.out).mono ?_
 rintro e w3 ⟨rfl,rfl⟩
 cases hq:atL funcs f with
 | none=>
  have HQ:Hid (R=none):=by show _=_;rw[HD.out,hq];rfl
  clear hq
  obtain⟨q0,q1⟩:=zaH HR.out
  have p0:=(zaA HR.out 0).2
  have p1:=(zaA HR.out 1).2
  have hrl:r<w3.heap.size:=jl HR.out
  simp only[Option.getD_none,Option.isSome_none]
  go_wp2_with fail
  obtain⟨f0,f1⟩:=zaH (store2 HR.out (.slice none 0 0) (.slice none 0 0))
  have HF2:=jq ((HB2.out.setCell (p:=⟨r,0,none⟩) HBR.out (.slice none 0 0)).setCell (p:=⟨r,1,none⟩) HBR.out (.slice none 0 0))
  generalize (w3.setCell ⟨r,0,none⟩ (.slice none 0 0)).setCell ⟨r,1,none⟩ (.slice none 0 0)=wf at *
  clear q0 q1 p0 p1
  rw[HQ.out]
  exact jr (v:=.tuple #[.agg #[.slice none 0 0,.slice none 0 0],.bool false]) (by simp[results,Tryz.results16,go_sem,f0,f1]) rfl ⟨⟨_,_,_,_,_,_,rfl,Row.nil _ _,Row.nil _ _⟩,HF2.out⟩
 | some n=>
  have HQ:Hid (R=atL (ts.map (·.1)) n):=by show _=_;rw[HD.out,hq];rfl
  clear hq
  simp only[Option.getD_some,Option.isSome_some]
  have x0:=(zaA HX.out 0).1
  simp only[List.getElem?_toArray,List.getElem?_cons_zero] at x0
  go_wp2_with fail
  clear x0
  refine(at_fn HT.out).mono ?_
  rw[<- HQ.out]
  rintro e w4 ⟨⟨P5,n5,c5,Q5,m5,d5,rfl,hr1,hr2⟩,hb⟩
  have HBn:=jq (hb.trans ((zaB w4 (.cells #[.slice P5 n5 c5,.slice Q5 m5 d5] 51)).mono hb.size))
  have HB5:=jq (HB2.out.trans (HBn.out.mono HB2.out.size))
  have H1:=jq (hr1.keep (zaB w4 (.cells #[.slice P5 n5 c5,.slice Q5 m5 d5] 51)))
  have H2:=jq (hr2.keep (zaB w4 (.cells #[.slice P5 n5 c5,.slice Q5 m5 d5] 51)))
  have HY:=jq (zaC w4 (.cells #[.slice P5 n5 c5,.slice Q5 m5 d5] 51))
  have HR5:=jq (blk HR.out HBn.out)
  have HRl:Hid (r<w4.heap.size):=Nat.lt_of_lt_of_le (jl HR.out) hb.size
  clear hb hr1 hr2
  go_wp2_with fail
  generalize w4.alloc (.cells #[.slice P5 n5 c5,.slice Q5 m5 d5] 51)=w5 at *
  obtain⟨y,hy⟩:∃y,w4.heap.size=y:=⟨_,rfl⟩
  rw[hy] at HY HRl
  simp only[hy]
  clear hy
  generalize R.isSome=ok at *
  obtain⟨n1,hn1⟩:∃n,(R.getD ([],[])).1.length=n:=⟨_,rfl⟩
  obtain⟨n2,hn2⟩:∃n,(R.getD ([],[])).2.length=n:=⟨_,rfl⟩
  have HN1:=jq hn1
  have HN2:=jq hn2
  have HL1:Hid ((R.getD ([],[])).1.length<=1000000):=Nat.le_trans HTB.out.1 (by omega)
  have HL2:Hid ((R.getD ([],[])).2.length<=1000000):=Nat.le_trans HTB.out.2 (by omega)
  have HD5:=jq (zaI w5)
  obtain⟨y0,y1⟩:=zaH HY.out
  have hyl:y<w5.heap.size:=jl HY.out
  have HYL:Hid (y<w5.heap.size):=hyl
  clear hn1 hn2
  go_region_law (first
   | (go_simp;go_at_call 44;(with_reducible refine Calls.mono (clone_any (H2.out.keep HBP.out) HL2.out) ?_);rintro e w7 ⟨⟨v7,rfl,ho7⟩,hb7⟩;obtain ⟨A2,k2,hv7⟩:=Own.form ho7;rw[HN2.out] at hv7;subst hv7;have HF1:=jq (own_keep HoP.out hb7);have HF2:=jq (own_low ho7 HBP.out.size);have HB7:=jq (HBP.out.trans (hb7.mono HBP.out.size));obtain ⟨r0,r1⟩:=zaH (blk HR5.out HB7.out);have rp0:=(zaA (blk HR5.out HB7.out) 0).2;have rp1:=(zaA (blk HR5.out HB7.out) 1).2;have hrl:=jl (blk HR5.out HB7.out);obtain ⟨s0,s1⟩:=zaH (blk HY.out HB7.out);clear ho7 hb7)
   | (go_simp;go_at_call 44;(with_reducible refine Calls.mono (clone_any (H1.out.keep HBQ.out) HL1.out) ?_);rintro e w7 ⟨⟨v7,rfl,ho7⟩,hb7⟩;obtain ⟨A1,k1,hv7⟩:=Own.form ho7;rw[HN1.out] at hv7;subst hv7;have HF2:=jq (own_keep HoQ.out hb7);have HF1:=jq (own_low ho7 HBQ.out.size);have HB7:=jq (HBQ.out.trans (hb7.mono HBQ.out.size));obtain ⟨r0,r1⟩:=zaH (blk HR5.out HB7.out);have rp0:=(zaA (blk HR5.out HB7.out) 0).2;have rp1:=(zaA (blk HR5.out HB7.out) 1).2;have hrl:=jl (blk HR5.out HB7.out);obtain ⟨s0,s1⟩:=zaH (blk HY.out HB7.out);clear ho7 hb7)
   | (go_simp;go_at_call 44;(with_reducible refine Calls.mono (clone_any (H1.out.keep HD5.out) HL1.out) ?_);rintro e wP ⟨⟨v7,rfl,hoP⟩,hbP⟩;obtain ⟨A1,k1,hv7⟩:=Own.form hoP;rw[HN1.out] at hv7;subst hv7;have HoP:=jq (own_low hoP HD5.out.size);have HBP:=jq (HD5.out.trans (hbP.mono HD5.out.size));obtain ⟨s0,s1⟩:=zaH (blk HY.out HBP.out);clear hoP hbP)
   | (go_simp;go_at_call 44;(with_reducible refine Calls.mono (clone_any (H2.out.keep HD5.out) HL2.out) ?_);rintro e wQ ⟨⟨v7,rfl,hoQ⟩,hbQ⟩;obtain ⟨A2,k2,hv7⟩:=Own.form hoQ;rw[HN2.out] at hv7;subst hv7;have HoQ:=jq (own_low hoQ HD5.out.size);have HBQ:=jq (HD5.out.trans (hbQ.mono HD5.out.size));obtain ⟨s0,s1⟩:=zaH (blk HY.out HBQ.out);clear hoQ hbQ))
  all_goals (
   have HR7:=jq (blk HR5.out HB7.out)
   have HBf:=jq (HB5.out.trans (HB7.out.mono HB5.out.size))
   obtain⟨f0,f1⟩:=zaH (store2 HR7.out (.slice A1 n1 k1) (.slice A2 n2 k2))
   have HF:=jq ((HBf.out.setCell (p:=⟨r,0,none⟩) HBR.out (.slice A1 n1 k1)).setCell (p:=⟨r,1,none⟩) HBR.out (.slice A2 n2 k2))
   have HO1:=jq (own_stay HF1.out (w':=(w7.setCell ⟨r,0,none⟩ (.slice A1 n1 k1)).setCell ⟨r,1,none⟩ (.slice A2 n2 k2)) fun kk hkk=>chg2 w7 r _ _ kk (World.ownsRow.lt HF1.out kk hkk).2 (by intro e;exact own_notB HF1.out HR7.out (by decide) hkk (Option.some.inj e)))
   have HO2:=jq (own_stay HF2.out (w':=(w7.setCell ⟨r,0,none⟩ (.slice A1 n1 k1)).setCell ⟨r,1,none⟩ (.slice A2 n2 k2)) fun kk hkk=>chg2 w7 r _ _ kk (World.ownsRow.lt HF2.out kk hkk).2 (by intro e;exact own_notB HF2.out HR7.out (by decide) hkk (Option.some.inj e)))
   generalize (w7.setCell ⟨r,0,none⟩ (.slice A1 n1 k1)).setCell ⟨r,1,none⟩ (.slice A2 n2 k2)=wf at *
   clear r0 r1 rp0 rp1 s0 s1 y0 y1 hyl hrl
   go_wp2_with fail
   exact jr (v:=.tuple #[.agg #[.slice A1 n1 k1,.slice A2 n2 k2],.bool ok]) (by simp[results,Tryz.results16,go_sem,f0,f1]) rfl ⟨⟨_,_,_,_,_,_,rfl,Own.row HO1.out (fun p hp=>H1.out.2 p hp),Own.row HO2.out (fun p hp=>H2.out.2 p hp)⟩,HF.out⟩)
theorem need_yes {w:World}{k:Nat}{V:EV}{E:EnvP}{x:Rs}{b:Bool}{i:Int}(h:Cx w k V E x)(hy:b=true\/∃e,x= .er e):Calls Tryz.prog 59 #[.pointer (some ⟨k,0,none⟩),.bool b,.int .i64 i] w fun e w'=>e= .returned (.tuple #[])/\w'=w:=by
 have hkl:k<w.heap.size:=h.lt
 cases x with
 | er e=>
  obtain⟨P,n,c,Q,m,d,h1,t1⟩:=h.er
  obtain⟨c7,c8,c9,f7,f8,f9⟩:=cells10 h1
  clear h h1 hy
  cases b
  all_goals (
   go_enter Tryz.func59,Tryz.ntmps59
   go_wp2_with fail
   exact bodyPost_end (v:=.tuple #[]) (by simp[results,Tryz.results59,go_sem]) rfl ⟨rfl,rfl⟩)
 | ok s=>
  obtain⟨P,n,c,Q,m,d,h1,hs⟩:=h.ok
  obtain⟨c7,c8,c9,f7,f8,f9⟩:=cells10 h1
  obtain rfl:b=true:=by
   rcases hy with h | ⟨e,h⟩
   ·exact h
   ·cases h
  clear h h1 hs hy
  go_enter Tryz.func59,Tryz.ntmps59
  go_wp2_with fail
  exact bodyPost_end (v:=.tuple #[]) (by simp[results,Tryz.results59,go_sem]) rfl ⟨rfl,rfl⟩
theorem need_no {w:World}{k:Nat}{V:EV}{E:EnvP}{s:Stk}{i:Int}(h:Cx w k V E (.ok s)):Calls Tryz.prog 59 #[.pointer (some ⟨k,0,none⟩),.bool false,.int .i64 i] w fun e w'=>e= .returned (.tuple #[])/\w'=w.setCell ⟨k,9,none⟩ (.int .i64 i):=by
 have hkl:k<w.heap.size:=h.lt
 obtain⟨P,n,c,Q,m,d,h1,hs⟩:=h.ok
 obtain⟨c7,c8,c9,f7,f8,f9⟩:=cells10 h1
 clear h h1 hs
 go_enter Tryz.func59,Tryz.ntmps59
 go_wp2_with fail
 exact bodyPost_end (v:=.tuple #[]) (by simp[results,Tryz.results59,go_sem]) rfl ⟨rfl,rfl⟩
theorem needR_yes {b:Bool}{i:Int}{x:Rs}(hy:b=true\/∃e,x= .er e):needR b i x=x:=by
 cases x with
 | er e=>rfl
 | ok s=>
  obtain rfl:b=true:=by
   rcases hy with h | ⟨e,h⟩
   ·exact h
   ·cases h
  rfl
theorem named_byte {w:World}{k:Nat}{V:EV}{E:EnvP}{x:Rs}{v:Value}{l:List Int}{n:Int}(h:Cx w k V E x)(hl:Row elB w v l):Calls Tryz.prog 130 #[.pointer (some ⟨k,0,none⟩),v,.int .i64 n] w (CkEnds w k V E (namedR l n x) (.int .u8 ((atL l n).getD 0))):=by
 have HC:=jq (at_byte (n:=n) hl)
 have H:=jq h
 have hd:namedR l n x=needR (atL l n).isSome 6 x:=rfl
 rw[hd]
 obtain⟨A,c,rfl,_⟩:=hl.form
 obtain⟨m,hm⟩:∃m,l.length=m:=⟨_,rfl⟩
 rw[hm] at HC ⊢
 generalize (atL l n).isSome=ok at *
 generalize (atL l n).getD 0=p at *
 have HN:=jq (need_ck (b:=ok) (i:=6) h (by decide))
 clear h hl hm hd
 go_enter Tryz.func130,Tryz.ntmps130
 go_wp2_with fail
 refine HC.out.mono ?_
 rintro e w1 ⟨rfl,rfl⟩
 go_wp2_with fail
 refine HN.out.mono ?_
 rintro e w2 ⟨rfl,hc,hb⟩
 have HC2:=jq hc
 have HB2:=jq hb
 clear hc hb HC HN
 go_wp2_with fail
 exact jr (v:=.int .u8 p) (by simp[results,Tryz.results130,go_sem]) rfl ⟨rfl,HC2.out,HB2.out⟩
theorem but_z {k z:Nat}{w w3:World}{a b:Value}(h:But k w w3){w':World}(hz:w.heap.size=z)(he:w'=(w3.setCell ⟨z,0,none⟩ a).setCell ⟨z,1,none⟩ b):But k w w':=by
 subst he
 refine⟨h.os,h.tape,h.output,by simp only[zaJ];exact h.size,fun j hj hne=>?_⟩
 have h1:j≠z:=by omega
 rw[chg_set _ z 1 b j (by rw[zaJ];exact Nat.lt_of_lt_of_le hj h.size) (fun e=>h1 (Option.some.inj e)),chg_set w3 z 0 a j (Nat.lt_of_lt_of_le hj h.size) (fun e=>h1 (Option.some.inj e))]
 exact h.block j hj hne
def NmEnds (w:World)(k:Nat)(V:EV)(E:EnvP)(y x:Rs)(r:Value)(e:Ending)(w':World):Prop:=e= .returned r/\((y=x/\Below w.heap.size w w')\/∃i,y= .er i/\Cx w' k V E (.er i)/\But k w w')
theorem named_globN {w:World}{k:Nat}{V:EV}{E:EnvP}{x:Rs}{v:Value}{l:List (Int×Bool)}{n:Int}(h:Cx w k V E x)(hl:Row elGP w v l):Calls Tryz.prog 131 #[.pointer (some ⟨k,0,none⟩),v,.int .i64 n] w (NmEnds w k V E (namedR l n x) x (.agg #[.int .u8 ((atL l n).getD (0,false)).1,.bool ((atL l n).getD (0,false)).2])):=by
 have HB0:=jq (zaB w (.cells #[.int .u8 0,.bool false] 82))
 have HZ0:=jq (zaC w (.cells #[.int .u8 0,.bool false] 82))
 have HC:=jq (at_glob (n:=n) (hl.keep HB0.out))
 have H:=jq h
 have HKL:Hid (k<w.heap.size):=h.lt
 have hd:namedR l n x=needR (atL l n).isSome 6 x:=rfl
 rw[hd]
 obtain⟨A,c,rfl,_⟩:=hl.form
 clear h hd
 obtain⟨m,hm⟩:∃m,l.length=m:=⟨_,rfl⟩
 rw[hm] at HC ⊢
 clear hl hm
 generalize hok:(atL l n).isSome=ok at *
 clear hok
 go_enter Tryz.func131,Tryz.ntmps131
 go_wp2_with fail
 generalize w.alloc (.cells #[.int .u8 0,.bool false] 82)=w0 at *
 obtain⟨z,hz⟩:∃z,w.heap.size=z:=⟨_,rfl⟩
 have HWZ:Hid (w.heap.size=z):=hz
 rw[hz] at HZ0 HKL
 simp only[hz]
 clear hz
 refine HC.out.mono ?_
 rintro e w1 ⟨⟨p,hp,rfl⟩,hb⟩
 have HB1:=jq (hb.trans ((zaB w1 (.cells #[.int .u8 p.1,.bool p.2] 82)).mono hb.size))
 have HY:=jq (zaC w1 (.cells #[.int .u8 p.1,.bool p.2] 82))
 have HZ:=jq (blk HZ0.out HB1.out)
 have HBW:=jq (HB0.out.trans (HB1.out.mono HB0.out.size))
 have HZY:Hid (z<w1.heap.size):=Nat.lt_of_lt_of_le (jl HZ0.out) hb.size
 have HP:=jq hp
 clear hp
 clear hb HC
 go_wp2_with fail
 generalize w1.alloc (.cells #[.int .u8 p.1,.bool p.2] 82)=w2 at *
 obtain⟨y,hy⟩:∃y,w1.heap.size=y:=⟨_,rfl⟩
 rw[hy] at HY HZY
 simp only[hy]
 clear hy
 have HX:=jq (H.out.keep HBW.out)
 by_cases hyes:ok=true\/∃e,x= .er e
 ·have HYES:=jq (needR_yes (i:=6) hyes)
  refine(need_yes HX.out hyes).mono ?_
  rintro e w3 ⟨rfl,hw3⟩
  obtain rfl:w2=w3:=hw3.symm
  clear hyes
  obtain⟨y0,y1⟩:=zaH HY.out
  obtain⟨z0,z1⟩:=zaH HZ.out
  have zp0:=(zaA HZ.out 0).2
  have zp1:=(zaA HZ.out 1).2
  have hzl:z<w2.heap.size:=jl HZ.out
  go_wp2_with fail
  obtain⟨f0,f1⟩:=zaH (show ((w2.setCell ⟨z,0,none⟩ (.int .u8 p.1)).setCell ⟨z,1,none⟩ (.bool p.2)).heap[z]? = some (.cells #[.int .u8 p.1,.bool p.2] 82 (0,0)) by rw[zaE (zaE HZ.out _)];rfl)
  have HF:=jq ((HBW.out.setCell (p:=⟨z,0,none⟩) (Nat.le_of_eq HWZ.out) (.int .u8 p.1)).setCell (p:=⟨z,1,none⟩) (Nat.le_of_eq HWZ.out) (.bool p.2))
  generalize (w2.setCell ⟨z,0,none⟩ (.int .u8 p.1)).setCell ⟨z,1,none⟩ (.bool p.2)=wf at *
  clear y0 y1 z0 z1 zp0 zp1
  exact jr (v:=.agg #[.int .u8 p.1,.bool p.2]) (by simp[results,Tryz.results131,go_sem,f0,f1]) rfl ⟨by rw[HP.out],.inl ⟨HYES.out,HF.out⟩⟩
 ·obtain ⟨s,rfl⟩:∃s,x= .ok s:=by
   cases x with
   | ok s=>exact ⟨s,rfl⟩
   | er e=>exact absurd (.inr ⟨e,rfl⟩) hyes
  obtain rfl:ok=false:=by
   cases ok with
   | false=>rfl
   | true=>exact absurd (.inl rfl) hyes
  clear hyes
  refine(need_no HX.out).mono ?_
  rintro e w3 ⟨rfl,hw3⟩
  have HKZ:Hid (k≠z):=jq (by have:=HKL.out;omega)
  have HKY:Hid (k≠y):=jq (by have:=HKL.out;have:=HZY.out;omega)
  obtain⟨P0,n0,c0',Q0,m0,d0,hk2,_⟩:=HX.out.ok
  have hk3:w3.heap[k]? = some (ckObj V E (.slice P0 n0 c0') (.slice Q0 m0 d0) 6):=by rw[hw3];exact set10e hk2 6
  have hb3:But k w2 w3:=by rw[hw3];exact(But.refl k w2).setCell 9 _
  have hy3:=(hb3.block y (jl HY.out) (Ne.symm HKY.out)).trans HY.out
  have hz3:=(hb3.block z (jl HZ.out) (Ne.symm HKZ.out)).trans HZ.out
  have HBB:=jq ((But.of_below (g:=k) HBW.out).trans hb3)
  have HK3:=jq hk3
  have HZ3:=jq hz3
  have HB3:=jq hb3
  obtain⟨y0,y1⟩:=zaH hy3
  obtain⟨z0,z1⟩:=zaH hz3
  have zp0:=(zaA hz3 0).2
  have zp1:=(zaA hz3 1).2
  have hzl:z<w3.heap.size:=jl hz3
  clear hw3 hk2 hk3 hb3 hy3 hz3
  go_wp2_with fail
  obtain⟨f0,f1⟩:=zaH (show ((w3.setCell ⟨z,0,none⟩ (.int .u8 p.1)).setCell ⟨z,1,none⟩ (.bool p.2)).heap[z]? = some (.cells #[.int .u8 p.1,.bool p.2] 82 (0,0)) by rw[zaE (zaE HZ3.out _)];rfl)
  have hk4:((w3.setCell ⟨z,0,none⟩ (.int .u8 p.1)).setCell ⟨z,1,none⟩ (.bool p.2)).heap[k]? = some (ckObj V E (.slice P0 n0 c0') (.slice Q0 m0 d0) 6):=chg_two HK3.out HZ3.out HKZ.out
  have hb4:But k w ((w3.setCell ⟨z,0,none⟩ (.int .u8 p.1)).setCell ⟨z,1,none⟩ (.bool p.2)):=but_z HBB.out HWZ.out rfl
  have HF:=jq (H.out.put (y:=.er 6) hb4 hk4 (fun s' hs'=>by cases hs') (fun e he=>by injection he with he;rw[<- he];decide))
  have HFB:=jq hb4
  generalize (w3.setCell ⟨z,0,none⟩ (.int .u8 p.1)).setCell ⟨z,1,none⟩ (.bool p.2)=wf at *
  clear y0 y1 z0 z1 zp0 zp1 hk4 hb4
  exact jr (v:=.agg #[.int .u8 p.1,.bool p.2]) (by simp[results,Tryz.results131,go_sem,f0,f1]) rfl ⟨by rw[HP.out],.inr ⟨6,rfl,HF.out,HFB.out⟩⟩
theorem named_glob {w:World}{k:Nat}{V:EV}{E:EnvP}{x:Rs}{v:Value}{l:List (Int×Bool)}{n:Int}(h:Cx w k V E x)(hl:Row elGP w v l):Calls Tryz.prog 131 #[.pointer (some ⟨k,0,none⟩),v,.int .i64 n] w (CkEnds w k V E (namedR l n x) (.agg #[.int .u8 ((atL l n).getD (0,false)).1,.bool ((atL l n).getD (0,false)).2])):=
 (named_globN h hl).mono fun e w' ⟨h1,h2⟩=>by
  refine⟨h1,?_⟩
  rcases h2 with ⟨h2,hb⟩ | ⟨i,h2,hc,hb⟩
  ·rw[h2];exact⟨h.keep hb,But.of_below hb⟩
  ·rw[h2];exact⟨hc,hb⟩
def NfEnds (w:World)(k:Nat)(V:EV)(E:EnvP)(x:Rs)(f:List Int×List Int)(e:Ending)(w':World):Prop:=∃P n c Q m d,e= .returned (.agg #[.slice P n c,.slice Q m d])/\Row elB w' (.slice P n c) f.1/\Row elB w' (.slice Q m d) f.2/\Cx w' k V E x/\But k w w'
theorem named_fn {w:World}{k:Nat}{V:EV}{E:EnvP}{x:Rs}{v:Value}{ts:List FnV}{n:Int}(h:Cx w k V E x)(hl:Row elF w v ts):Calls Tryz.prog 133 #[.pointer (some ⟨k,0,none⟩),v,.int .i64 n] w (NfEnds w k V E (namedR (ts.map (·.1)) n x) ((atL (ts.map (·.1)) n).getD ([],[]))):=by
 have HB0:=jq (zaB w (.cells #[.slice none 0 0,.slice none 0 0] 51))
 have HZ0:=jq (zaC w (.cells #[.slice none 0 0,.slice none 0 0] 51))
 have HC:=jq (at_fn (n:=n) (hl.keep HB0.out))
 have H:=jq h
 have HKL:Hid (k<w.heap.size):=h.lt
 have hd:namedR (ts.map (·.1)) n x=needR (atL (ts.map (·.1)) n).isSome 6 x:=rfl
 rw[hd]
 obtain⟨A,c,rfl,_⟩:=hl.form
 clear h hd
 obtain⟨m,hm⟩:∃m,ts.length=m:=⟨_,rfl⟩
 rw[hm] at HC ⊢
 clear hl hm
 generalize hok:(atL (ts.map (·.1)) n).isSome=ok at *
 clear hok
 go_enter Tryz.func133,Tryz.ntmps133
 go_wp2_with fail
 generalize w.alloc (.cells #[.slice none 0 0,.slice none 0 0] 51)=w0 at *
 obtain⟨z,hz⟩:∃z,w.heap.size=z:=⟨_,rfl⟩
 have HWZ:Hid (w.heap.size=z):=hz
 rw[hz] at HZ0 HKL
 simp only[hz]
 clear hz
 refine HC.out.mono ?_
 rintro e w1 ⟨⟨P5,n5,c5,Q5,m5,d5,rfl,hr1,hr2⟩,hb⟩
 have HB1:=jq (hb.trans ((zaB w1 (.cells #[.slice P5 n5 c5,.slice Q5 m5 d5] 51)).mono hb.size))
 have HY:=jq (zaC w1 (.cells #[.slice P5 n5 c5,.slice Q5 m5 d5] 51))
 have HZ:=jq (blk HZ0.out HB1.out)
 have HBW:=jq (HB0.out.trans (HB1.out.mono HB0.out.size))
 have HZY:Hid (z<w1.heap.size):=Nat.lt_of_lt_of_le (jl HZ0.out) hb.size
 have HR1:=jq (hr1.keep (zaB w1 (.cells #[.slice P5 n5 c5,.slice Q5 m5 d5] 51)))
 have HR2:=jq (hr2.keep (zaB w1 (.cells #[.slice P5 n5 c5,.slice Q5 m5 d5] 51)))
 clear hr1 hr2
 clear hb HC
 go_wp2_with fail
 generalize w1.alloc (.cells #[.slice P5 n5 c5,.slice Q5 m5 d5] 51)=w2 at *
 obtain⟨y,hy⟩:∃y,w1.heap.size=y:=⟨_,rfl⟩
 rw[hy] at HY HZY
 simp only[hy]
 clear hy
 have HX:=jq (H.out.keep HBW.out)
 by_cases hyes:ok=true\/∃e,x= .er e
 ·have HYES:=jq (needR_yes (i:=6) hyes)
  refine(need_yes HX.out hyes).mono ?_
  rintro e w3 ⟨rfl,hw3⟩
  obtain rfl:w2=w3:=hw3.symm
  clear hyes
  obtain⟨y0,y1⟩:=zaH HY.out
  obtain⟨z0,z1⟩:=zaH HZ.out
  have zp0:=(zaA HZ.out 0).2
  have zp1:=(zaA HZ.out 1).2
  have hzl:z<w2.heap.size:=jl HZ.out
  go_wp2_with fail
  obtain⟨f0,f1⟩:=zaH (show ((w2.setCell ⟨z,0,none⟩ (.slice P5 n5 c5)).setCell ⟨z,1,none⟩ (.slice Q5 m5 d5)).heap[z]? = some (.cells #[.slice P5 n5 c5,.slice Q5 m5 d5] 51 (0,0)) by rw[zaE (zaE HZ.out _)];rfl)
  have HF:=jq ((HBW.out.setCell (p:=⟨z,0,none⟩) (Nat.le_of_eq HWZ.out) (.slice P5 n5 c5)).setCell (p:=⟨z,1,none⟩) (Nat.le_of_eq HWZ.out) (.slice Q5 m5 d5))
  have HE1:=jq (rowB_box (rowB_box HR1.out HZ.out (i:=0) (u:=.slice P5 n5 c5)) (zaE HZ.out _) (i:=1) (u:=.slice Q5 m5 d5))
  have HE2:=jq (rowB_box (rowB_box HR2.out HZ.out (i:=0) (u:=.slice P5 n5 c5)) (zaE HZ.out _) (i:=1) (u:=.slice Q5 m5 d5))
  generalize (w2.setCell ⟨z,0,none⟩ (.slice P5 n5 c5)).setCell ⟨z,1,none⟩ (.slice Q5 m5 d5)=wf at *
  clear y0 y1 z0 z1 zp0 zp1
  exact jr (v:=.agg #[.slice P5 n5 c5,.slice Q5 m5 d5]) (by simp[results,Tryz.results133,go_sem,f0,f1]) rfl ⟨_,_,_,_,_,_,rfl,HE1.out,HE2.out,by rw[HYES.out];exact H.out.keep HF.out,But.of_below HF.out⟩
 ·obtain ⟨s,rfl⟩:∃s,x= .ok s:=by
   cases x with
   | ok s=>exact ⟨s,rfl⟩
   | er e=>exact absurd (.inr ⟨e,rfl⟩) hyes
  obtain rfl:ok=false:=by
   cases ok with
   | false=>rfl
   | true=>exact absurd (.inl rfl) hyes
  clear hyes
  refine(need_no HX.out).mono ?_
  rintro e w3 ⟨rfl,hw3⟩
  have HKZ:Hid (k≠z):=jq (by have:=HKL.out;omega)
  have HKY:Hid (k≠y):=jq (by have:=HKL.out;have:=HZY.out;omega)
  obtain⟨P0,n0,c0',Q0,m0,d0,hk2,_⟩:=HX.out.ok
  have hk3:w3.heap[k]? = some (ckObj V E (.slice P0 n0 c0') (.slice Q0 m0 d0) 6):=by rw[hw3];exact set10e hk2 6
  have hb3:But k w2 w3:=by rw[hw3];exact(But.refl k w2).setCell 9 _
  have hy3:=(hb3.block y (jl HY.out) (Ne.symm HKY.out)).trans HY.out
  have hz3:=(hb3.block z (jl HZ.out) (Ne.symm HKZ.out)).trans HZ.out
  have HBB:=jq ((But.of_below (g:=k) HBW.out).trans hb3)
  have HK3:=jq hk3
  have HZ3:=jq hz3
  have HB3:=jq hb3
  obtain⟨y0,y1⟩:=zaH hy3
  obtain⟨z0,z1⟩:=zaH hz3
  have zp0:=(zaA hz3 0).2
  have zp1:=(zaA hz3 1).2
  have hzl:z<w3.heap.size:=jl hz3
  clear hw3 hk2 hk3 hb3 hy3 hz3
  go_wp2_with fail
  obtain⟨f0,f1⟩:=zaH (show ((w3.setCell ⟨z,0,none⟩ (.slice P5 n5 c5)).setCell ⟨z,1,none⟩ (.slice Q5 m5 d5)).heap[z]? = some (.cells #[.slice P5 n5 c5,.slice Q5 m5 d5] 51 (0,0)) by rw[zaE (zaE HZ3.out _)];rfl)
  have hk4:((w3.setCell ⟨z,0,none⟩ (.slice P5 n5 c5)).setCell ⟨z,1,none⟩ (.slice Q5 m5 d5)).heap[k]? = some (ckObj V E (.slice P0 n0 c0') (.slice Q0 m0 d0) 6):=chg_two HK3.out HZ3.out HKZ.out
  have hb4:But k w ((w3.setCell ⟨z,0,none⟩ (.slice P5 n5 c5)).setCell ⟨z,1,none⟩ (.slice Q5 m5 d5)):=but_z HBB.out HWZ.out rfl
  have HF:=jq (H.out.put (y:=.er 6) hb4 hk4 (fun s' hs'=>by cases hs') (fun e he=>by injection he with he;rw[<- he];decide))
  have HFB:=jq hb4
  have HE1:=jq (rowB_box (rowB_box (zaG HR1.out HX.out.nobb HB3.out) HZ3.out (i:=0) (u:=.slice P5 n5 c5)) (zaE HZ3.out _) (i:=1) (u:=.slice Q5 m5 d5))
  have HE2:=jq (rowB_box (rowB_box (zaG HR2.out HX.out.nobb HB3.out) HZ3.out (i:=0) (u:=.slice P5 n5 c5)) (zaE HZ3.out _) (i:=1) (u:=.slice Q5 m5 d5))
  generalize (w3.setCell ⟨z,0,none⟩ (.slice P5 n5 c5)).setCell ⟨z,1,none⟩ (.slice Q5 m5 d5)=wf at *
  clear y0 y1 z0 z1 zp0 zp1 hk4 hb4
  exact jr (v:=.agg #[.slice P5 n5 c5,.slice Q5 m5 d5]) (by simp[results,Tryz.results133,go_sem,f0,f1]) rfl ⟨_,_,_,_,_,_,rfl,HE1.out,HE2.out,HF.out,HFB.out⟩
end Go.Proofs.YtlappkflnlbfcaaGreatDoor.Chk
