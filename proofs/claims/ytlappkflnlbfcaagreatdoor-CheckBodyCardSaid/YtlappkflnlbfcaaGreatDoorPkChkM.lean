import Derived.Test.YtlappkflnlbfcaaGreatDoorPkChkNamed
import Derived.Test.YtlappkflnlbfcaaGreatDoorPkChkShape
import Derived.Test.YtlappkflnlbfcaaGreatDoorPkInsPSame
namespace Go.Proofs.YtlappkflnlbfcaaGreatDoor.Chk
open Lib renaming hid → jq
open Go.RowKit Row9 Stk
set_option maxRecDepth 100000
set_option maxHeartbeats 8000000
set_option linter.unusedVariables false
theorem getLastD_mem (l:List Int):l.getLastD 0=0\/l.getLastD 0∈l:=by
 rcases List.eq_nil_or_concat l with rfl | ⟨q,x,rfl⟩
 ·exact .inl rfl
 ·exact .inr (by simp)
theorem popB_range {w:World}{k:Nat}{V:EV}{E:EnvP}{x:Rs}(h:Cx w k V E x):0<=popB x/\popB x<256:=by
 have z:(0:Int)<=0/\(0:Int)<256:=by omega
 cases x with
 | er e=>exact z
 | ok s=>
  obtain⟨P,n,c,Q,m,d,_,a,b,l,_,ha,_⟩:=h.ok
  show 0<=(popS s).2.1/\(popS s).2.1<256
  unfold popS
  split
  ·exact z
  ·cases hp:popV s.cs.getLast? s.vals with
   | none=>exact z
   | some p=>
    obtain⟨vs,v⟩:=p
    show 0<=v/\v<256
    cases ho:s.cs.getLast? with
    | none=>rw[ho] at hp;cases hp
    | some c=>
     rw[ho] at hp
     unfold popV at hp
     simp only at hp
     split at hp
     ·injection hp with hp
      injection hp with _ hp
      subst hp
      rcases getLastD_mem s.vals with e | e
      ·rw[e];exact z
      ·exact ha.2 _ e
     ·split at hp
      ·injection hp with hp
       injection hp with _ hp
       subst hp
       exact z
      ·cases hp
theorem atB_range {w:World}{v:Value}{l:List Int}(h:Row elB w v l)(n:Int):0<=(atL l n).getD 0/\(atL l n).getD 0<256:=by
 cases hq:atL l n with
 | none=>exact ⟨Int.le_refl _,by decide⟩
 | some x=>exact h.2 x (atL_mem hq)
theorem atG_range {w:World}{v:Value}{l:List (Int×Bool)}(h:Row elGP w v l)(n:Int):0<=((atL l n).getD (0,false)).1/\((atL l n).getD (0,false)).1<256:=by
 cases hq:atL l n with
 | none=>exact ⟨Int.le_refl _,by decide⟩
 | some x=>exact h.2 x (atL_mem hq)
theorem cells5 {w:World}{y:Nat}{a b c d e:Value}{t:TypeId}(h:w.heap[y]? = some (.cells #[a,b,c,d,e] t (0,0))):w.cell? ⟨y,0,none⟩=some a/\w.cell? ⟨y,1,none⟩=some b/\w.cell? ⟨y,4,none⟩=some e:=⟨(zaA h 0).1,(zaA h 1).1,(zaA h 4).1⟩
theorem ckcells {w:World}{k:Nat}{V:EV}{E:EnvP}{vv cv:Value}{e:Int}(h:w.heap[k]? = some (ckObj V E vv cv e)):w.cell? ⟨k,0,none⟩=some (.slice V.Pt V.nt V.ct)/\w.cell? ⟨k,1,none⟩=some (.slice V.Pf V.nf V.cf)/\w.cell? ⟨k,2,none⟩=some (.int .i64 E.tables)/\w.cell? ⟨k,3,none⟩=some (.int .i64 E.mems)/\w.cell? ⟨k,4,none⟩=some (.slice V.Pg V.ng V.cg)/\w.cell? ⟨k,5,none⟩=some (.slice V.Pl V.nl V.cl)/\w.cell? ⟨k,6,none⟩=some (.slice V.Pr V.nr V.cr):=
 ⟨(zaA h 0).1,(zaA h 1).1,(zaA h 2).1,(zaA h 3).1,(zaA h 4).1,(zaA h 5).1,(zaA h 6).1⟩
theorem Cx.heap {w:World}{k:Nat}{V:EV}{E:EnvP}{x:Rs}(h:Cx w k V E x):∃P n c Q m d e,w.heap[k]? = some (ckObj V E (.slice P n c) (.slice Q m d) e):=by
 obtain⟨⟨P,n,c,Q,m,d,h1,_⟩,_⟩:=h
 exact⟨P,n,c,Q,m,d,_,h1⟩
theorem l1 (n:Int)(x:Rs):(labelL n x).length<=400000:=Nat.le_trans (labelL_len n x) (by omega)
theorem call_ck {w:World}{k:Nat}{V:EV}{E:EnvP}{x:Rs}{f:List Int×List Int}{P:Option Addr}{n c:Nat}{Q:Option Addr}{m d:Nat}(h:Cx w k V E x)(hb:Bd x 300000)(hp:Row elB w (.slice P n c) f.1)(hr:Row elB w (.slice Q m d) f.2)(h1:f.1.length<=1000)(h2:f.2.length<=1000):Calls Tryz.prog 128 #[.pointer (some ⟨k,0,none⟩),.agg #[.slice P n c,.slice Q m d]] w (CkEnds w k V E (callR f x) (.tuple #[])):=by
 have HP:=jq (hp.keep (zaB w (.cells #[.slice P n c,.slice Q m d] 51)))
 have HR:=jq (hr.keep (zaB w (.cells #[.slice P n c,.slice Q m d] 51)))
 have HBT:Hid (But k w (w.alloc (.cells #[.slice P n c,.slice Q m d] 51))):=But.of_below (zaB w (.cells #[.slice P n c,.slice Q m d] 51))
 have HCK:=jq (h.keep (zaB w (.cells #[.slice P n c,.slice Q m d] 51)))
 have HX:=jq (zaC w (.cells #[.slice P n c,.slice Q m d] 51))
 have HYK:Hid (w.heap.size≠k):=jq (by have:=h.lt;omega)
 have HB0:=jq hb
 have HN1:Hid (f.1.length<=400000):=jq (by omega)
 have HN2:Hid (f.2.length<=400000):=jq (by omega)
 clear h hb hp hr h1 h2
 obtain⟨b0,b1⟩:=zaH HX.out
 go_enter Tryz.func128,Tryz.ntmps128
 go_wp2_with fail
 clear b0 b1
 generalize w.alloc (.cells #[.slice P n c,.slice Q m d] 51)=u0 at *
 obtain⟨y,hy⟩:∃y,w.heap.size=y:=⟨_,rfl⟩
 rw[hy] at HX HYK
 simp only[hy]
 clear hy
 refine(want_ck HCK.out (HB0.out.mono (by omega)) HP.out HN1.out).mono ?_
 rintro e w1 ⟨rfl,hc,hbt⟩
 have HP:=jq (zaG HP.out HCK.out.nobb hbt)
 have HR:=jq (zaG HR.out HCK.out.nobb hbt)
 have HX:=jq (hbt.bk HX.out HYK.out)
 have HBT:=jq (HBT.out.trans hbt)
 have HCK:=jq hc
 clear hc hbt
 obtain⟨b0,b1⟩:=zaH HX.out
 go_wp2_with fail
 clear b0 b1
 refine(push_ck HCK.out (HB0.out.want.mono (by omega)) HR.out HN2.out).mono ?_
 rintro e w2 ⟨rfl,hc,hbt⟩
 have HP:=jq (zaG HP.out HCK.out.nobb hbt)
 have HR:=jq (zaG HR.out HCK.out.nobb hbt)
 have HX:=jq (hbt.bk HX.out HYK.out)
 have HBT:=jq (HBT.out.trans hbt)
 have HCK:=jq hc
 clear hc hbt
 go_wp2_with fail
 exact bodyPost_end (v:=.tuple #[]) (by simp[results,Tryz.results128,go_sem]) rfl ⟨rfl,HCK.out,HBT.out⟩
theorem local_ck {w:World}{k:Nat}{V:EV}{E:EnvP}{x:Rs}{op v:Int}(h:Cx w k V E x)(hb:Bd x 300000)(hv:0<=v/\v<256)(ho:op=32\/op=33\/op=34):Calls Tryz.prog 129 #[.pointer (some ⟨k,0,none⟩),.int .i64 op,.int .u8 v] w (CkEnds w k V E (localR op v x) (.tuple #[])):=by
 have HV:=jq hv
 rcases ho with rfl | rfl | rfl
 ·skip
  show Calls _ _ _ _ (CkEnds w k V E (pushR [v] x) (.tuple #[]))
  clear hv
  have HCK:=jq h
  have HB0:=jq hb
  have HBT:Hid (But k w w):=But.refl k w
  clear h hb
  go_enter Tryz.func129,Tryz.ntmps129
  go_wp2_with fail
  have HT:=jq (zaB w (.cells #[.int .u8 v] 5))
  have HBT:=jq (HBT.out.trans (But.of_below HT.out))
  have HCK:=jq (HCK.out.keep HT.out)
  have HL:=jq (zaL w v HV.out)
  generalize w.alloc (.cells #[.int .u8 v] 5)=u1 at *
  clear HT
  refine(push_ck HCK.out (HB0.out.mono (by omega)) HL.out (by simp)).mono ?_
  rintro e w2 ⟨rfl,hc,hbt⟩
  have HL:=jq (zaG HL.out HCK.out.nobb hbt)
  have HBT:=jq (HBT.out.trans hbt)
  have HCK:=jq hc
  clear hc hbt
  go_wp2_with fail
  exact bodyPost_end (v:=.tuple #[]) (by simp[results,Tryz.results129,go_sem]) rfl ⟨rfl,HCK.out,HBT.out⟩
 ·skip
  show Calls _ _ _ _ (CkEnds w k V E (wantR [v] x) (.tuple #[]))
  clear hv
  have HCK:=jq h
  have HB0:=jq hb
  have HBT:Hid (But k w w):=But.refl k w
  clear h hb
  go_enter Tryz.func129,Tryz.ntmps129
  go_wp2_with fail
  have HT:=jq (zaB w (.cells #[.int .u8 v] 5))
  have HBT:=jq (HBT.out.trans (But.of_below HT.out))
  have HCK:=jq (HCK.out.keep HT.out)
  have HL:=jq (zaL w v HV.out)
  generalize w.alloc (.cells #[.int .u8 v] 5)=u1 at *
  clear HT
  refine(want_ck HCK.out (HB0.out.mono (by omega)) HL.out (by simp)).mono ?_
  rintro e w2 ⟨rfl,hc,hbt⟩
  have HL:=jq (zaG HL.out HCK.out.nobb hbt)
  have HBT:=jq (HBT.out.trans hbt)
  have HCK:=jq hc
  clear hc hbt
  go_wp2_with fail
  exact bodyPost_end (v:=.tuple #[]) (by simp[results,Tryz.results129,go_sem]) rfl ⟨rfl,HCK.out,HBT.out⟩
 ·skip
  show Calls _ _ _ _ (CkEnds w k V E (pushR [v] (wantR [v] x)) (.tuple #[]))
  clear hv
  have HCK:=jq h
  have HB0:=jq hb
  have HBT:Hid (But k w w):=But.refl k w
  clear h hb
  go_enter Tryz.func129,Tryz.ntmps129
  go_wp2_with fail
  have HT:=jq (zaB w (.cells #[.int .u8 v] 5))
  have HBT:=jq (HBT.out.trans (But.of_below HT.out))
  have HCK:=jq (HCK.out.keep HT.out)
  have HL:=jq (zaL w v HV.out)
  generalize w.alloc (.cells #[.int .u8 v] 5)=u1 at *
  clear HT
  refine(want_ck HCK.out (HB0.out.mono (by omega)) HL.out (by simp)).mono ?_
  rintro e w2 ⟨rfl,hc,hbt⟩
  have HL:=jq (zaG HL.out HCK.out.nobb hbt)
  have HBT:=jq (HBT.out.trans hbt)
  have HCK:=jq hc
  clear hc hbt
  go_wp2_with fail
  have HT:=jq (zaB w2 (.cells #[.int .u8 v] 5))
  have HBT:=jq (HBT.out.trans (But.of_below HT.out))
  have HCK:=jq (HCK.out.keep HT.out)
  have HL:=jq (zaL w2 v HV.out)
  generalize w2.alloc (.cells #[.int .u8 v] 5)=u3 at *
  clear HT
  refine(push_ck HCK.out (HB0.out.want.mono (by omega)) HL.out (by simp)).mono ?_
  rintro e w4 ⟨rfl,hc,hbt⟩
  have HL:=jq (zaG HL.out HCK.out.nobb hbt)
  have HBT:=jq (HBT.out.trans hbt)
  have HCK:=jq hc
  clear hc hbt
  go_wp2_with fail
  exact bodyPost_end (v:=.tuple #[]) (by simp[results,Tryz.results129,go_sem]) rfl ⟨rfl,HCK.out,HBT.out⟩
theorem const32_ck {w:World}{k:Nat}{V:EV}{E:EnvP}{x:Rs}{op A B K:Int}{lab:Value}(h:Cx w k V E x)(hb:Bd x 300000):Calls Tryz.prog 100 #[.pointer (some ⟨k,0,none⟩),.agg #[.int .i64 op,.int .i64 A,.int .i64 B,.int .u64 K,lab]] w (CkEnds w k V E (pushR [127] x) (.tuple #[])):=by
 have HCK:=jq h
 have HB0:=jq hb
 have HBT:Hid (But k w (w.alloc (oJ op A B K lab))):=But.of_below (zaB w (oJ op A B K lab))
 have HCK:=jq (h.keep (zaB w (oJ op A B K lab)))
 have HX:=jq (zaC w (oJ op A B K lab))
 have HSZ:Hid ((w.alloc (oJ op A B K lab)).heap.size=w.heap.size+1):=zaD _ _
 have HYK:Hid (w.heap.size≠k):=jq (by have:=h.lt;omega)
 clear h hb
 go_enter Tryz.func100,Tryz.ntmps100
 go_wp2_with fail
 generalize w.alloc (oJ op A B K lab)=u0 at *
 obtain⟨y,hy⟩:∃y,w.heap.size=y:=⟨_,rfl⟩
 rw[hy] at HX HYK HSZ
 simp only[hy]
 clear hy
 have HT:=jq (zaB u0 (.cells #[.int .u8 127] 5))
 have HX:=jq (blk HX.out HT.out)
 have HBT:=jq (HBT.out.trans (But.of_below HT.out))
 have HCK:=jq (HCK.out.keep HT.out)
 have HL:=jq (zaL u0 127 ⟨by omega,by omega⟩)
 generalize u0.alloc (.cells #[.int .u8 127] 5)=u1 at *
 clear HT
 rw[HSZ.out] at HL
 refine(push_ck HCK.out (HB0.out.mono (by omega)) HL.out (by simp)).mono ?_
 rintro e w2 ⟨rfl,hc,hbt⟩
 have HL:=jq (zaG HL.out HCK.out.nobb hbt)
 have HX:=jq (hbt.bk HX.out HYK.out)
 have HBT:=jq (HBT.out.trans hbt)
 have HCK:=jq hc
 clear hc hbt
 go_wp2_with fail
 exact bodyPost_end (v:=.tuple #[]) (by simp[results,Tryz.results100,go_sem]) rfl ⟨rfl,HCK.out,HBT.out⟩
theorem const64_ck {w:World}{k:Nat}{V:EV}{E:EnvP}{x:Rs}{op A B K:Int}{lab:Value}(h:Cx w k V E x)(hb:Bd x 300000):Calls Tryz.prog 101 #[.pointer (some ⟨k,0,none⟩),.agg #[.int .i64 op,.int .i64 A,.int .i64 B,.int .u64 K,lab]] w (CkEnds w k V E (pushR [126] x) (.tuple #[])):=by
 have HCK:=jq h
 have HB0:=jq hb
 have HBT:Hid (But k w (w.alloc (oJ op A B K lab))):=But.of_below (zaB w (oJ op A B K lab))
 have HCK:=jq (h.keep (zaB w (oJ op A B K lab)))
 have HX:=jq (zaC w (oJ op A B K lab))
 have HSZ:Hid ((w.alloc (oJ op A B K lab)).heap.size=w.heap.size+1):=zaD _ _
 have HYK:Hid (w.heap.size≠k):=jq (by have:=h.lt;omega)
 clear h hb
 go_enter Tryz.func101,Tryz.ntmps101
 go_wp2_with fail
 generalize w.alloc (oJ op A B K lab)=u0 at *
 obtain⟨y,hy⟩:∃y,w.heap.size=y:=⟨_,rfl⟩
 rw[hy] at HX HYK HSZ
 simp only[hy]
 clear hy
 have HT:=jq (zaB u0 (.cells #[.int .u8 126] 5))
 have HX:=jq (blk HX.out HT.out)
 have HBT:=jq (HBT.out.trans (But.of_below HT.out))
 have HCK:=jq (HCK.out.keep HT.out)
 have HL:=jq (zaL u0 126 ⟨by omega,by omega⟩)
 generalize u0.alloc (.cells #[.int .u8 126] 5)=u1 at *
 clear HT
 rw[HSZ.out] at HL
 refine(push_ck HCK.out (HB0.out.mono (by omega)) HL.out (by simp)).mono ?_
 rintro e w2 ⟨rfl,hc,hbt⟩
 have HL:=jq (zaG HL.out HCK.out.nobb hbt)
 have HX:=jq (hbt.bk HX.out HYK.out)
 have HBT:=jq (HBT.out.trans hbt)
 have HCK:=jq hc
 clear hc hbt
 go_wp2_with fail
 exact bodyPost_end (v:=.tuple #[]) (by simp[results,Tryz.results101,go_sem]) rfl ⟨rfl,HCK.out,HBT.out⟩
theorem memory_ck {w:World}{k:Nat}{V:EV}{E:EnvP}{s:Stk}{op A B K:Int}{lab:Value}(h:Cx w k V E (.ok s))(hb:Bd (.ok s) 300000):Calls Tryz.prog 99 #[.pointer (some ⟨k,0,none⟩),.agg #[.int .i64 op,.int .i64 A,.int .i64 B,.int .u64 K,lab]] w (CkEnds w k V E (memR E op s) (.tuple #[])):=by
 by_cases h63:op=63
 ·skip
  have HD:Hid (memR E op s=pushR [127] (needR (decide (1<=E.mems)) 6 (.ok s))):=by show _=_;simp only[memR,if_pos h63]
  rw[HD.out]
  have t1:(op != 63)=false:=by simpa using h63
  obtain⟨bm,hbm⟩:∃bm,decide (1<=E.mems)=bm:=⟨_,rfl⟩
  rw[hbm] at HD ⊢
  clear h63
  have HCK:=jq h
  have HB0:=jq hb
  have HBT:Hid (But k w (w.alloc (oJ op A B K lab))):=But.of_below (zaB w (oJ op A B K lab))
  have HCK:=jq (h.keep (zaB w (oJ op A B K lab)))
  have HX:=jq (zaC w (oJ op A B K lab))
  have HSZ:Hid ((w.alloc (oJ op A B K lab)).heap.size=w.heap.size+1):=zaD _ _
  have HYK:Hid (w.heap.size≠k):=jq (by have:=h.lt;omega)
  clear h hb
  obtain⟨_,_,_,_,_,_,_,hkh⟩:=HCK.out.heap
  obtain⟨e0,e1,e2,e3,e4,e5,e6⟩:=ckcells hkh
  have ekl:=jl hkh
  go_enter Tryz.func99,Tryz.ntmps99
  go_wp2_with fail
  clear hkh e0 e1 e2 e3 e4 e5 e6 ekl
  generalize w.alloc (oJ op A B K lab)=u0 at *
  obtain⟨y,hy⟩:∃y,w.heap.size=y:=⟨_,rfl⟩
  rw[hy] at HX HYK HSZ
  simp only[hy]
  clear hy
  refine(need_ck HCK.out (by decide)).mono ?_
  rintro e w1 ⟨rfl,hc,hbt⟩
  have HX:=jq (hbt.bk HX.out HYK.out)
  have HBT:=jq (HBT.out.trans hbt)
  have HCK:=jq hc
  clear hc hbt
  obtain⟨b0,b1,b4⟩:=cells5 HX.out
  have bl:=jl HX.out
  go_wp2_with fail
  clear b0 b1 b4 bl
  have HT:=jq (zaB w1 (.cells #[.int .u8 127] 5))
  have HX:=jq (blk HX.out HT.out)
  have HBT:=jq (HBT.out.trans (But.of_below HT.out))
  have HCK:=jq (HCK.out.keep HT.out)
  have HL:=jq (zaL w1 127 ⟨by omega,by omega⟩)
  generalize w1.alloc (.cells #[.int .u8 127] 5)=u2 at *
  clear HT
  refine(push_ck HCK.out (HB0.out.need.mono (by omega)) HL.out (by simp)).mono ?_
  rintro e w3 ⟨rfl,hc,hbt⟩
  have HL:=jq (zaG HL.out HCK.out.nobb hbt)
  have HX:=jq (hbt.bk HX.out HYK.out)
  have HBT:=jq (HBT.out.trans hbt)
  have HCK:=jq hc
  clear hc hbt
  go_wp2_with fail
  exact bodyPost_end (v:=.tuple #[]) (by simp[results,Tryz.results99,go_sem]) rfl ⟨rfl,HCK.out,HBT.out⟩
 ·skip
  have HD:Hid (memR E op s=pushR [127] (wantR [127] (needR (decide (1<=E.mems)) 6 (.ok s)))):=by show _=_;simp only[memR,if_neg h63]
  rw[HD.out]
  have t1:(op != 63)=true:=by simpa using h63
  obtain⟨bm,hbm⟩:∃bm,decide (1<=E.mems)=bm:=⟨_,rfl⟩
  rw[hbm] at HD ⊢
  clear h63
  have HCK:=jq h
  have HB0:=jq hb
  have HBT:Hid (But k w (w.alloc (oJ op A B K lab))):=But.of_below (zaB w (oJ op A B K lab))
  have HCK:=jq (h.keep (zaB w (oJ op A B K lab)))
  have HX:=jq (zaC w (oJ op A B K lab))
  have HSZ:Hid ((w.alloc (oJ op A B K lab)).heap.size=w.heap.size+1):=zaD _ _
  have HYK:Hid (w.heap.size≠k):=jq (by have:=h.lt;omega)
  clear h hb
  obtain⟨_,_,_,_,_,_,_,hkh⟩:=HCK.out.heap
  obtain⟨e0,e1,e2,e3,e4,e5,e6⟩:=ckcells hkh
  have ekl:=jl hkh
  go_enter Tryz.func99,Tryz.ntmps99
  go_wp2_with fail
  clear hkh e0 e1 e2 e3 e4 e5 e6 ekl
  generalize w.alloc (oJ op A B K lab)=u0 at *
  obtain⟨y,hy⟩:∃y,w.heap.size=y:=⟨_,rfl⟩
  rw[hy] at HX HYK HSZ
  simp only[hy]
  clear hy
  refine(need_ck HCK.out (by decide)).mono ?_
  rintro e w1 ⟨rfl,hc,hbt⟩
  have HX:=jq (hbt.bk HX.out HYK.out)
  have HBT:=jq (HBT.out.trans hbt)
  have HCK:=jq hc
  clear hc hbt
  obtain⟨b0,b1,b4⟩:=cells5 HX.out
  have bl:=jl HX.out
  go_wp2_with fail
  clear b0 b1 b4 bl
  have HT:=jq (zaB w1 (.cells #[.int .u8 127] 5))
  have HX:=jq (blk HX.out HT.out)
  have HBT:=jq (HBT.out.trans (But.of_below HT.out))
  have HCK:=jq (HCK.out.keep HT.out)
  have HL:=jq (zaL w1 127 ⟨by omega,by omega⟩)
  generalize w1.alloc (.cells #[.int .u8 127] 5)=u2 at *
  clear HT
  refine(want_ck HCK.out (HB0.out.need.mono (by omega)) HL.out (by simp)).mono ?_
  rintro e w3 ⟨rfl,hc,hbt⟩
  have HL:=jq (zaG HL.out HCK.out.nobb hbt)
  have HX:=jq (hbt.bk HX.out HYK.out)
  have HBT:=jq (HBT.out.trans hbt)
  have HCK:=jq hc
  clear hc hbt
  go_wp2_with fail
  have HT:=jq (zaB w3 (.cells #[.int .u8 127] 5))
  have HX:=jq (blk HX.out HT.out)
  have HBT:=jq (HBT.out.trans (But.of_below HT.out))
  have HCK:=jq (HCK.out.keep HT.out)
  have HL:=jq (zaL w3 127 ⟨by omega,by omega⟩)
  generalize w3.alloc (.cells #[.int .u8 127] 5)=u4 at *
  clear HT
  refine(push_ck HCK.out (HB0.out.need.want.mono (by omega)) HL.out (by simp)).mono ?_
  rintro e w5 ⟨rfl,hc,hbt⟩
  have HL:=jq (zaG HL.out HCK.out.nobb hbt)
  have HX:=jq (hbt.bk HX.out HYK.out)
  have HBT:=jq (HBT.out.trans hbt)
  have HCK:=jq hc
  clear hc hbt
  go_wp2_with fail
  exact bodyPost_end (v:=.tuple #[]) (by simp[results,Tryz.results99,go_sem]) rfl ⟨rfl,HCK.out,HBT.out⟩
theorem block_ck {w:World}{k:Nat}{V:EV}{E:EnvP}{s:Stk}{op A B K:Int}{lab:Value}(h:Cx w k V E (.ok s))(hb:Bd (.ok s) 300000)(hA:A=0\/A=127\/A=126)(ho:w64 op):Calls Tryz.prog 94 #[.pointer (some ⟨k,0,none⟩),.agg #[.int .i64 op,.int .i64 A,.int .i64 B,.int .u64 K,lab]] w (CkEnds w k V E (blockR op A s) (.tuple #[])):=by
 have HOP:=jq ho
 clear ho
 by_cases h4:op=4
 ·subst h4
  rcases hA with rfl | rfl | rfl
  ·skip
   have HD:Hid (blockR 4 0 s=openR 4 [] (wantR [127] (.ok s))):=by show _=_;unfold blockR;rw[if_pos rfl,if_pos rfl]
   rw[HD.out]
   clear HD
   have HCK:=jq h
   have HB0:=jq hb
   have HBT:Hid (But k w (w.alloc (.cells #[.int .i64 4,.int .i64 0,.int .i64 B,.int .u64 K,lab] 33))):=But.of_below (zaB w (.cells #[.int .i64 4,.int .i64 0,.int .i64 B,.int .u64 K,lab] 33))
   have HCK:=jq (h.keep (zaB w (.cells #[.int .i64 4,.int .i64 0,.int .i64 B,.int .u64 K,lab] 33)))
   have HX:=jq (zaC w (.cells #[.int .i64 4,.int .i64 0,.int .i64 B,.int .u64 K,lab] 33))
   have HSZ:Hid ((w.alloc (.cells #[.int .i64 4,.int .i64 0,.int .i64 B,.int .u64 K,lab] 33)).heap.size=w.heap.size+1):=zaD _ _
   have HYK:Hid (w.heap.size≠k):=jq (by have:=h.lt;omega)
   clear h hb
   obtain⟨b0,b1,b4⟩:=cells5 HX.out
   have bl:=jl HX.out
   go_enter Tryz.func94,Tryz.ntmps94
   go_wp2_with fail
   clear b0 b1 b4 bl
   generalize w.alloc (.cells #[.int .i64 4,.int .i64 0,.int .i64 B,.int .u64 K,lab] 33)=u0 at *
   obtain⟨y,hy⟩:∃y,w.heap.size=y:=⟨_,rfl⟩
   rw[hy] at HX HYK HSZ
   simp only[hy]
   clear hy
   have HT:=jq (zaB u0 (.cells #[.int .u8 127] 5))
   have HX:=jq (blk HX.out HT.out)
   have HBT:=jq (HBT.out.trans (But.of_below HT.out))
   have HCK:=jq (HCK.out.keep HT.out)
   have HL:=jq (zaL u0 127 ⟨by omega,by omega⟩)
   generalize u0.alloc (.cells #[.int .u8 127] 5)=u1 at *
   clear HT
   rw[HSZ.out] at HL
   refine(want_ck HCK.out (HB0.out.mono (by omega)) HL.out (by simp)).mono ?_
   rintro e w2 ⟨rfl,hc,hbt⟩
   have HL:=jq (zaG HL.out HCK.out.nobb hbt)
   have HX:=jq (hbt.bk HX.out HYK.out)
   have HBT:=jq (HBT.out.trans hbt)
   have HCK:=jq hc
   clear hc hbt
   obtain⟨b0,b1,b4⟩:=cells5 HX.out
   have bl:=jl HX.out
   go_wp2_with fail
   clear b0 b1 b4 bl
   refine(open_ck HCK.out (HB0.out.want.mono (by omega)) HOP.out (Row.nil _ _) (by simp)).mono ?_
   rintro e w3 ⟨rfl,hc,hbt⟩
   have HL:=jq (zaG HL.out HCK.out.nobb hbt)
   have HX:=jq (hbt.bk HX.out HYK.out)
   have HBT:=jq (HBT.out.trans hbt)
   have HCK:=jq hc
   clear hc hbt
   go_wp2_with fail
   exact bodyPost_end (v:=.tuple #[]) (by simp[results,Tryz.results94,go_sem]) rfl ⟨rfl,HCK.out,HBT.out⟩
  ·skip
   have HD:Hid (blockR 4 127 s=openR 4 [127] (wantR [127] (.ok s))):=by show _=_;unfold blockR;rw[if_neg (by decide),if_pos rfl]
   rw[HD.out]
   clear HD
   have hcv:IntKind.u8.wrap 127=127:=by decide
   have HCK:=jq h
   have HB0:=jq hb
   have HBT:Hid (But k w (w.alloc (.cells #[.int .i64 4,.int .i64 127,.int .i64 B,.int .u64 K,lab] 33))):=But.of_below (zaB w (.cells #[.int .i64 4,.int .i64 127,.int .i64 B,.int .u64 K,lab] 33))
   have HCK:=jq (h.keep (zaB w (.cells #[.int .i64 4,.int .i64 127,.int .i64 B,.int .u64 K,lab] 33)))
   have HX:=jq (zaC w (.cells #[.int .i64 4,.int .i64 127,.int .i64 B,.int .u64 K,lab] 33))
   have HSZ:Hid ((w.alloc (.cells #[.int .i64 4,.int .i64 127,.int .i64 B,.int .u64 K,lab] 33)).heap.size=w.heap.size+1):=zaD _ _
   have HYK:Hid (w.heap.size≠k):=jq (by have:=h.lt;omega)
   clear h hb
   obtain⟨b0,b1,b4⟩:=cells5 HX.out
   have bl:=jl HX.out
   go_enter Tryz.func94,Tryz.ntmps94
   go_wp2_with fail
   clear b0 b1 b4 bl
   generalize w.alloc (.cells #[.int .i64 4,.int .i64 127,.int .i64 B,.int .u64 K,lab] 33)=u0 at *
   obtain⟨y,hy⟩:∃y,w.heap.size=y:=⟨_,rfl⟩
   rw[hy] at HX HYK HSZ
   simp only[hy]
   clear hy
   have HT:=jq (zaB u0 (.cells #[.int .u8 127] 5))
   have HX:=jq (blk HX.out HT.out)
   have HBT:=jq (HBT.out.trans (But.of_below HT.out))
   have HCK:=jq (HCK.out.keep HT.out)
   have HL:=jq (zaL u0 127 ⟨by omega,by omega⟩)
   generalize u0.alloc (.cells #[.int .u8 127] 5)=u1 at *
   clear HT
   rw[HSZ.out] at HL
   refine(want_ck HCK.out (HB0.out.mono (by omega)) HL.out (by simp)).mono ?_
   rintro e w2 ⟨rfl,hc,hbt⟩
   have HL:=jq (zaG HL.out HCK.out.nobb hbt)
   have HX:=jq (hbt.bk HX.out HYK.out)
   have HBT:=jq (HBT.out.trans hbt)
   have HCK:=jq hc
   clear hc hbt
   obtain⟨b0,b1,b4⟩:=cells5 HX.out
   have bl:=jl HX.out
   go_wp2_with fail
   clear b0 b1 b4 bl
   have HT:=jq (zaB w2 (.cells #[.int .u8 127] 5))
   have HX:=jq (blk HX.out HT.out)
   have HBT:=jq (HBT.out.trans (But.of_below HT.out))
   have HCK:=jq (HCK.out.keep HT.out)
   have HL:=jq (zaL w2 127 ⟨by omega,by omega⟩)
   generalize w2.alloc (.cells #[.int .u8 127] 5)=u3 at *
   clear HT
   refine(open_ck HCK.out (HB0.out.want.mono (by omega)) HOP.out HL.out (by simp)).mono ?_
   rintro e w4 ⟨rfl,hc,hbt⟩
   have HL:=jq (zaG HL.out HCK.out.nobb hbt)
   have HX:=jq (hbt.bk HX.out HYK.out)
   have HBT:=jq (HBT.out.trans hbt)
   have HCK:=jq hc
   clear hc hbt
   go_wp2_with fail
   exact bodyPost_end (v:=.tuple #[]) (by simp[results,Tryz.results94,go_sem]) rfl ⟨rfl,HCK.out,HBT.out⟩
  ·skip
   have HD:Hid (blockR 4 126 s=openR 4 [126] (wantR [127] (.ok s))):=by show _=_;unfold blockR;rw[if_neg (by decide),if_pos rfl]
   rw[HD.out]
   clear HD
   have hcv:IntKind.u8.wrap 126=126:=by decide
   have HCK:=jq h
   have HB0:=jq hb
   have HBT:Hid (But k w (w.alloc (.cells #[.int .i64 4,.int .i64 126,.int .i64 B,.int .u64 K,lab] 33))):=But.of_below (zaB w (.cells #[.int .i64 4,.int .i64 126,.int .i64 B,.int .u64 K,lab] 33))
   have HCK:=jq (h.keep (zaB w (.cells #[.int .i64 4,.int .i64 126,.int .i64 B,.int .u64 K,lab] 33)))
   have HX:=jq (zaC w (.cells #[.int .i64 4,.int .i64 126,.int .i64 B,.int .u64 K,lab] 33))
   have HSZ:Hid ((w.alloc (.cells #[.int .i64 4,.int .i64 126,.int .i64 B,.int .u64 K,lab] 33)).heap.size=w.heap.size+1):=zaD _ _
   have HYK:Hid (w.heap.size≠k):=jq (by have:=h.lt;omega)
   clear h hb
   obtain⟨b0,b1,b4⟩:=cells5 HX.out
   have bl:=jl HX.out
   go_enter Tryz.func94,Tryz.ntmps94
   go_wp2_with fail
   clear b0 b1 b4 bl
   generalize w.alloc (.cells #[.int .i64 4,.int .i64 126,.int .i64 B,.int .u64 K,lab] 33)=u0 at *
   obtain⟨y,hy⟩:∃y,w.heap.size=y:=⟨_,rfl⟩
   rw[hy] at HX HYK HSZ
   simp only[hy]
   clear hy
   have HT:=jq (zaB u0 (.cells #[.int .u8 127] 5))
   have HX:=jq (blk HX.out HT.out)
   have HBT:=jq (HBT.out.trans (But.of_below HT.out))
   have HCK:=jq (HCK.out.keep HT.out)
   have HL:=jq (zaL u0 127 ⟨by omega,by omega⟩)
   generalize u0.alloc (.cells #[.int .u8 127] 5)=u1 at *
   clear HT
   rw[HSZ.out] at HL
   refine(want_ck HCK.out (HB0.out.mono (by omega)) HL.out (by simp)).mono ?_
   rintro e w2 ⟨rfl,hc,hbt⟩
   have HL:=jq (zaG HL.out HCK.out.nobb hbt)
   have HX:=jq (hbt.bk HX.out HYK.out)
   have HBT:=jq (HBT.out.trans hbt)
   have HCK:=jq hc
   clear hc hbt
   obtain⟨b0,b1,b4⟩:=cells5 HX.out
   have bl:=jl HX.out
   go_wp2_with fail
   clear b0 b1 b4 bl
   have HT:=jq (zaB w2 (.cells #[.int .u8 126] 5))
   have HX:=jq (blk HX.out HT.out)
   have HBT:=jq (HBT.out.trans (But.of_below HT.out))
   have HCK:=jq (HCK.out.keep HT.out)
   have HL:=jq (zaL w2 126 ⟨by omega,by omega⟩)
   generalize w2.alloc (.cells #[.int .u8 126] 5)=u3 at *
   clear HT
   refine(open_ck HCK.out (HB0.out.want.mono (by omega)) HOP.out HL.out (by simp)).mono ?_
   rintro e w4 ⟨rfl,hc,hbt⟩
   have HL:=jq (zaG HL.out HCK.out.nobb hbt)
   have HX:=jq (hbt.bk HX.out HYK.out)
   have HBT:=jq (HBT.out.trans hbt)
   have HCK:=jq hc
   clear hc hbt
   go_wp2_with fail
   exact bodyPost_end (v:=.tuple #[]) (by simp[results,Tryz.results94,go_sem]) rfl ⟨rfl,HCK.out,HBT.out⟩
 ·have t1:(op == 4)=false:=by simpa using h4
  rcases hA with rfl | rfl | rfl
  ·skip
   have HD:Hid (blockR op 0 s=openR op [] (Rs.ok s)):=by show _=_;unfold blockR;rw[if_pos rfl,if_neg h4]
   rw[HD.out]
   clear HD h4
   have HCK:=jq h
   have HB0:=jq hb
   have HBT:Hid (But k w (w.alloc (.cells #[.int .i64 op,.int .i64 0,.int .i64 B,.int .u64 K,lab] 33))):=But.of_below (zaB w (.cells #[.int .i64 op,.int .i64 0,.int .i64 B,.int .u64 K,lab] 33))
   have HCK:=jq (h.keep (zaB w (.cells #[.int .i64 op,.int .i64 0,.int .i64 B,.int .u64 K,lab] 33)))
   have HX:=jq (zaC w (.cells #[.int .i64 op,.int .i64 0,.int .i64 B,.int .u64 K,lab] 33))
   have HSZ:Hid ((w.alloc (.cells #[.int .i64 op,.int .i64 0,.int .i64 B,.int .u64 K,lab] 33)).heap.size=w.heap.size+1):=zaD _ _
   have HYK:Hid (w.heap.size≠k):=jq (by have:=h.lt;omega)
   clear h hb
   obtain⟨b0,b1,b4⟩:=cells5 HX.out
   have bl:=jl HX.out
   go_enter Tryz.func94,Tryz.ntmps94
   go_wp2_with fail
   clear b0 b1 b4 bl
   generalize w.alloc (.cells #[.int .i64 op,.int .i64 0,.int .i64 B,.int .u64 K,lab] 33)=u0 at *
   obtain⟨y,hy⟩:∃y,w.heap.size=y:=⟨_,rfl⟩
   rw[hy] at HX HYK HSZ
   simp only[hy]
   clear hy
   refine(open_ck HCK.out (HB0.out.mono (by omega)) HOP.out (Row.nil _ _) (by simp)).mono ?_
   rintro e w1 ⟨rfl,hc,hbt⟩
   have HX:=jq (hbt.bk HX.out HYK.out)
   have HBT:=jq (HBT.out.trans hbt)
   have HCK:=jq hc
   clear hc hbt
   go_wp2_with fail
   exact bodyPost_end (v:=.tuple #[]) (by simp[results,Tryz.results94,go_sem]) rfl ⟨rfl,HCK.out,HBT.out⟩
  ·skip
   have HD:Hid (blockR op 127 s=openR op [127] (Rs.ok s)):=by show _=_;unfold blockR;rw[if_neg (by decide),if_neg h4]
   rw[HD.out]
   clear HD h4
   have hcv:IntKind.u8.wrap 127=127:=by decide
   have HCK:=jq h
   have HB0:=jq hb
   have HBT:Hid (But k w (w.alloc (.cells #[.int .i64 op,.int .i64 127,.int .i64 B,.int .u64 K,lab] 33))):=But.of_below (zaB w (.cells #[.int .i64 op,.int .i64 127,.int .i64 B,.int .u64 K,lab] 33))
   have HCK:=jq (h.keep (zaB w (.cells #[.int .i64 op,.int .i64 127,.int .i64 B,.int .u64 K,lab] 33)))
   have HX:=jq (zaC w (.cells #[.int .i64 op,.int .i64 127,.int .i64 B,.int .u64 K,lab] 33))
   have HSZ:Hid ((w.alloc (.cells #[.int .i64 op,.int .i64 127,.int .i64 B,.int .u64 K,lab] 33)).heap.size=w.heap.size+1):=zaD _ _
   have HYK:Hid (w.heap.size≠k):=jq (by have:=h.lt;omega)
   clear h hb
   obtain⟨b0,b1,b4⟩:=cells5 HX.out
   have bl:=jl HX.out
   go_enter Tryz.func94,Tryz.ntmps94
   go_wp2_with fail
   clear b0 b1 b4 bl
   generalize w.alloc (.cells #[.int .i64 op,.int .i64 127,.int .i64 B,.int .u64 K,lab] 33)=u0 at *
   obtain⟨y,hy⟩:∃y,w.heap.size=y:=⟨_,rfl⟩
   rw[hy] at HX HYK HSZ
   simp only[hy]
   clear hy
   have HT:=jq (zaB u0 (.cells #[.int .u8 127] 5))
   have HX:=jq (blk HX.out HT.out)
   have HBT:=jq (HBT.out.trans (But.of_below HT.out))
   have HCK:=jq (HCK.out.keep HT.out)
   have HL:=jq (zaL u0 127 ⟨by omega,by omega⟩)
   generalize u0.alloc (.cells #[.int .u8 127] 5)=u1 at *
   clear HT
   rw[HSZ.out] at HL
   refine(open_ck HCK.out (HB0.out.mono (by omega)) HOP.out HL.out (by simp)).mono ?_
   rintro e w2 ⟨rfl,hc,hbt⟩
   have HL:=jq (zaG HL.out HCK.out.nobb hbt)
   have HX:=jq (hbt.bk HX.out HYK.out)
   have HBT:=jq (HBT.out.trans hbt)
   have HCK:=jq hc
   clear hc hbt
   go_wp2_with fail
   exact bodyPost_end (v:=.tuple #[]) (by simp[results,Tryz.results94,go_sem]) rfl ⟨rfl,HCK.out,HBT.out⟩
  ·skip
   have HD:Hid (blockR op 126 s=openR op [126] (Rs.ok s)):=by show _=_;unfold blockR;rw[if_neg (by decide),if_neg h4]
   rw[HD.out]
   clear HD h4
   have hcv:IntKind.u8.wrap 126=126:=by decide
   have HCK:=jq h
   have HB0:=jq hb
   have HBT:Hid (But k w (w.alloc (.cells #[.int .i64 op,.int .i64 126,.int .i64 B,.int .u64 K,lab] 33))):=But.of_below (zaB w (.cells #[.int .i64 op,.int .i64 126,.int .i64 B,.int .u64 K,lab] 33))
   have HCK:=jq (h.keep (zaB w (.cells #[.int .i64 op,.int .i64 126,.int .i64 B,.int .u64 K,lab] 33)))
   have HX:=jq (zaC w (.cells #[.int .i64 op,.int .i64 126,.int .i64 B,.int .u64 K,lab] 33))
   have HSZ:Hid ((w.alloc (.cells #[.int .i64 op,.int .i64 126,.int .i64 B,.int .u64 K,lab] 33)).heap.size=w.heap.size+1):=zaD _ _
   have HYK:Hid (w.heap.size≠k):=jq (by have:=h.lt;omega)
   clear h hb
   obtain⟨b0,b1,b4⟩:=cells5 HX.out
   have bl:=jl HX.out
   go_enter Tryz.func94,Tryz.ntmps94
   go_wp2_with fail
   clear b0 b1 b4 bl
   generalize w.alloc (.cells #[.int .i64 op,.int .i64 126,.int .i64 B,.int .u64 K,lab] 33)=u0 at *
   obtain⟨y,hy⟩:∃y,w.heap.size=y:=⟨_,rfl⟩
   rw[hy] at HX HYK HSZ
   simp only[hy]
   clear hy
   have HT:=jq (zaB u0 (.cells #[.int .u8 126] 5))
   have HX:=jq (blk HX.out HT.out)
   have HBT:=jq (HBT.out.trans (But.of_below HT.out))
   have HCK:=jq (HCK.out.keep HT.out)
   have HL:=jq (zaL u0 126 ⟨by omega,by omega⟩)
   generalize u0.alloc (.cells #[.int .u8 126] 5)=u1 at *
   clear HT
   rw[HSZ.out] at HL
   refine(open_ck HCK.out (HB0.out.mono (by omega)) HOP.out HL.out (by simp)).mono ?_
   rintro e w2 ⟨rfl,hc,hbt⟩
   have HL:=jq (zaG HL.out HCK.out.nobb hbt)
   have HX:=jq (hbt.bk HX.out HYK.out)
   have HBT:=jq (HBT.out.trans hbt)
   have HCK:=jq hc
   clear hc hbt
   go_wp2_with fail
   exact bodyPost_end (v:=.tuple #[]) (by simp[results,Tryz.results94,go_sem]) rfl ⟨rfl,HCK.out,HBT.out⟩
theorem choose_ck {w:World}{k:Nat}{V:EV}{E:EnvP}{s:Stk}(h:Cx w k V E (.ok s))(hb:Bd (.ok s) 300000):Calls Tryz.prog 125 #[.pointer (some ⟨k,0,none⟩)] w (CkEnds w k V E (chooseR s) (.tuple #[])):=by
 have HCK:=jq h
 have HB0:=jq hb
 have HBT:Hid (But k w w):=But.refl k w
 clear h hb
 go_enter Tryz.func125,Tryz.ntmps125
 go_wp2_with fail
 have HT:=jq (zaB w (.cells #[.int .u8 127] 5))
 have HBT:=jq (HBT.out.trans (But.of_below HT.out))
 have HCK:=jq (HCK.out.keep HT.out)
 have HL:=jq (zaL w 127 ⟨by omega,by omega⟩)
 generalize w.alloc (.cells #[.int .u8 127] 5)=u1 at *
 clear HT
 refine(want_ck HCK.out (HB0.out.mono (by omega)) HL.out (by simp)).mono ?_
 rintro e w2 ⟨rfl,hc,hbt⟩
 have HL:=jq (zaG HL.out HCK.out.nobb hbt)
 have HBT:=jq (HBT.out.trans hbt)
 have HCK:=jq hc
 clear hc hbt
 go_wp2_with fail
 clear HL
 have HP1:=jq (popB_range HCK.out)
 refine(pop_ck HCK.out (HB0.out.want.mono (by omega))).mono ?_
 rintro e w3 ⟨rfl,hc,hbt⟩
 have HBT:=jq (HBT.out.trans hbt)
 have HCK:=jq hc
 clear hc hbt
 go_wp2_with fail
 have HP2:=jq (popB_range HCK.out)
 refine(pop_ck HCK.out (HB0.out.want.pop.mono (by omega))).mono ?_
 rintro e w4 ⟨rfl,hc,hbt⟩
 have HBT:=jq (HBT.out.trans hbt)
 have HCK:=jq hc
 clear hc hbt
 have HD:Hid (chooseR s=pushR [if popB (wantR [127] (.ok s))=0 then popB (popR (wantR [127] (.ok s))) else popB (wantR [127] (.ok s))] (needR ((popB (wantR [127] (.ok s)) == popB (popR (wantR [127] (.ok s)))) || (popB (wantR [127] (.ok s)) == 0) || (popB (popR (wantR [127] (.ok s))) == 0)) 5 (popR (popR (wantR [127] (.ok s)))))):=rfl
 generalize popB (popR (wantR [127] (.ok s)))=b at *
 generalize popB (wantR [127] (.ok s))=a at *
 have HNB:∀q,Hid ((a == b)=true\/(a == 0)=true\/(b == 0)=true->q=true)->True:=fun _ _=>trivial
 obtain⟨q1,hq1⟩:∃q,(a == b)=q:=⟨_,rfl⟩
 obtain⟨q2,hq2⟩:∃q,(a == 0)=q:=⟨_,rfl⟩
 obtain⟨q3,hq3⟩:∃q,(b == 0)=q:=⟨_,rfl⟩
 have HI:Hid ((if a=0 then b else a)=if q2=true then b else a):=by
  show _=_
  cases q2 with
  | true=>rw[if_pos (by simpa using hq2)];rfl
  | false=>rw[if_neg (by simpa using hq2)];rfl
 rw[HI.out,hq1,hq2,hq3] at HD
 clear HNB HI
 cases q2
 ·cases q1
  ·cases q3
   ·skip
    go_wp2_with fail
    refine(need_ck HCK.out (by decide)).mono ?_
    rintro e w5 ⟨rfl,hc,hbt⟩
    have HBT:=jq (HBT.out.trans hbt)
    have HCK:=jq hc
    clear hc hbt
    go_wp2_with fail
    have HT:=jq (zaB w5 (.cells #[.int .u8 a] 5))
    have HBT:=jq (HBT.out.trans (But.of_below HT.out))
    have HCK:=jq (HCK.out.keep HT.out)
    have HL:=jq (zaL w5 a HP1.out)
    generalize w5.alloc (.cells #[.int .u8 a] 5)=u6 at *
    clear HT
    refine(push_ck HCK.out (HB0.out.want.pop.pop.need.mono (by omega)) HL.out (by simp)).mono ?_
    rintro e w7 ⟨rfl,hc,hbt⟩
    have HL:=jq (zaG HL.out HCK.out.nobb hbt)
    have HBT:=jq (HBT.out.trans hbt)
    have HCK:=jq hc
    clear hc hbt
    go_wp2_with fail
    exact bodyPost_end (v:=.tuple #[]) (by simp[results,Tryz.results125,go_sem]) rfl ⟨rfl,by rw[HD.out];exact HCK.out,HBT.out⟩
   ·skip
    go_wp2_with fail
    refine(need_ck HCK.out (by decide)).mono ?_
    rintro e w5 ⟨rfl,hc,hbt⟩
    have HBT:=jq (HBT.out.trans hbt)
    have HCK:=jq hc
    clear hc hbt
    go_wp2_with fail
    have HT:=jq (zaB w5 (.cells #[.int .u8 a] 5))
    have HBT:=jq (HBT.out.trans (But.of_below HT.out))
    have HCK:=jq (HCK.out.keep HT.out)
    have HL:=jq (zaL w5 a HP1.out)
    generalize w5.alloc (.cells #[.int .u8 a] 5)=u6 at *
    clear HT
    refine(push_ck HCK.out (HB0.out.want.pop.pop.need.mono (by omega)) HL.out (by simp)).mono ?_
    rintro e w7 ⟨rfl,hc,hbt⟩
    have HL:=jq (zaG HL.out HCK.out.nobb hbt)
    have HBT:=jq (HBT.out.trans hbt)
    have HCK:=jq hc
    clear hc hbt
    go_wp2_with fail
    exact bodyPost_end (v:=.tuple #[]) (by simp[results,Tryz.results125,go_sem]) rfl ⟨rfl,by rw[HD.out];exact HCK.out,HBT.out⟩
  ·cases q3
   ·skip
    go_wp2_with fail
    refine(need_ck HCK.out (by decide)).mono ?_
    rintro e w5 ⟨rfl,hc,hbt⟩
    have HBT:=jq (HBT.out.trans hbt)
    have HCK:=jq hc
    clear hc hbt
    go_wp2_with fail
    have HT:=jq (zaB w5 (.cells #[.int .u8 a] 5))
    have HBT:=jq (HBT.out.trans (But.of_below HT.out))
    have HCK:=jq (HCK.out.keep HT.out)
    have HL:=jq (zaL w5 a HP1.out)
    generalize w5.alloc (.cells #[.int .u8 a] 5)=u6 at *
    clear HT
    refine(push_ck HCK.out (HB0.out.want.pop.pop.need.mono (by omega)) HL.out (by simp)).mono ?_
    rintro e w7 ⟨rfl,hc,hbt⟩
    have HL:=jq (zaG HL.out HCK.out.nobb hbt)
    have HBT:=jq (HBT.out.trans hbt)
    have HCK:=jq hc
    clear hc hbt
    go_wp2_with fail
    exact bodyPost_end (v:=.tuple #[]) (by simp[results,Tryz.results125,go_sem]) rfl ⟨rfl,by rw[HD.out];exact HCK.out,HBT.out⟩
   ·skip
    go_wp2_with fail
    refine(need_ck HCK.out (by decide)).mono ?_
    rintro e w5 ⟨rfl,hc,hbt⟩
    have HBT:=jq (HBT.out.trans hbt)
    have HCK:=jq hc
    clear hc hbt
    go_wp2_with fail
    have HT:=jq (zaB w5 (.cells #[.int .u8 a] 5))
    have HBT:=jq (HBT.out.trans (But.of_below HT.out))
    have HCK:=jq (HCK.out.keep HT.out)
    have HL:=jq (zaL w5 a HP1.out)
    generalize w5.alloc (.cells #[.int .u8 a] 5)=u6 at *
    clear HT
    refine(push_ck HCK.out (HB0.out.want.pop.pop.need.mono (by omega)) HL.out (by simp)).mono ?_
    rintro e w7 ⟨rfl,hc,hbt⟩
    have HL:=jq (zaG HL.out HCK.out.nobb hbt)
    have HBT:=jq (HBT.out.trans hbt)
    have HCK:=jq hc
    clear hc hbt
    go_wp2_with fail
    exact bodyPost_end (v:=.tuple #[]) (by simp[results,Tryz.results125,go_sem]) rfl ⟨rfl,by rw[HD.out];exact HCK.out,HBT.out⟩
 ·cases q1
  ·cases q3
   ·skip
    go_wp2_with fail
    refine(need_ck HCK.out (by decide)).mono ?_
    rintro e w5 ⟨rfl,hc,hbt⟩
    have HBT:=jq (HBT.out.trans hbt)
    have HCK:=jq hc
    clear hc hbt
    go_wp2_with fail
    have HT:=jq (zaB w5 (.cells #[.int .u8 b] 5))
    have HBT:=jq (HBT.out.trans (But.of_below HT.out))
    have HCK:=jq (HCK.out.keep HT.out)
    have HL:=jq (zaL w5 b HP2.out)
    generalize w5.alloc (.cells #[.int .u8 b] 5)=u6 at *
    clear HT
    refine(push_ck HCK.out (HB0.out.want.pop.pop.need.mono (by omega)) HL.out (by simp)).mono ?_
    rintro e w7 ⟨rfl,hc,hbt⟩
    have HL:=jq (zaG HL.out HCK.out.nobb hbt)
    have HBT:=jq (HBT.out.trans hbt)
    have HCK:=jq hc
    clear hc hbt
    go_wp2_with fail
    exact bodyPost_end (v:=.tuple #[]) (by simp[results,Tryz.results125,go_sem]) rfl ⟨rfl,by rw[HD.out];exact HCK.out,HBT.out⟩
   ·skip
    go_wp2_with fail
    refine(need_ck HCK.out (by decide)).mono ?_
    rintro e w5 ⟨rfl,hc,hbt⟩
    have HBT:=jq (HBT.out.trans hbt)
    have HCK:=jq hc
    clear hc hbt
    go_wp2_with fail
    have HT:=jq (zaB w5 (.cells #[.int .u8 b] 5))
    have HBT:=jq (HBT.out.trans (But.of_below HT.out))
    have HCK:=jq (HCK.out.keep HT.out)
    have HL:=jq (zaL w5 b HP2.out)
    generalize w5.alloc (.cells #[.int .u8 b] 5)=u6 at *
    clear HT
    refine(push_ck HCK.out (HB0.out.want.pop.pop.need.mono (by omega)) HL.out (by simp)).mono ?_
    rintro e w7 ⟨rfl,hc,hbt⟩
    have HL:=jq (zaG HL.out HCK.out.nobb hbt)
    have HBT:=jq (HBT.out.trans hbt)
    have HCK:=jq hc
    clear hc hbt
    go_wp2_with fail
    exact bodyPost_end (v:=.tuple #[]) (by simp[results,Tryz.results125,go_sem]) rfl ⟨rfl,by rw[HD.out];exact HCK.out,HBT.out⟩
  ·cases q3
   ·skip
    go_wp2_with fail
    refine(need_ck HCK.out (by decide)).mono ?_
    rintro e w5 ⟨rfl,hc,hbt⟩
    have HBT:=jq (HBT.out.trans hbt)
    have HCK:=jq hc
    clear hc hbt
    go_wp2_with fail
    have HT:=jq (zaB w5 (.cells #[.int .u8 b] 5))
    have HBT:=jq (HBT.out.trans (But.of_below HT.out))
    have HCK:=jq (HCK.out.keep HT.out)
    have HL:=jq (zaL w5 b HP2.out)
    generalize w5.alloc (.cells #[.int .u8 b] 5)=u6 at *
    clear HT
    refine(push_ck HCK.out (HB0.out.want.pop.pop.need.mono (by omega)) HL.out (by simp)).mono ?_
    rintro e w7 ⟨rfl,hc,hbt⟩
    have HL:=jq (zaG HL.out HCK.out.nobb hbt)
    have HBT:=jq (HBT.out.trans hbt)
    have HCK:=jq hc
    clear hc hbt
    go_wp2_with fail
    exact bodyPost_end (v:=.tuple #[]) (by simp[results,Tryz.results125,go_sem]) rfl ⟨rfl,by rw[HD.out];exact HCK.out,HBT.out⟩
   ·skip
    go_wp2_with fail
    refine(need_ck HCK.out (by decide)).mono ?_
    rintro e w5 ⟨rfl,hc,hbt⟩
    have HBT:=jq (HBT.out.trans hbt)
    have HCK:=jq hc
    clear hc hbt
    go_wp2_with fail
    have HT:=jq (zaB w5 (.cells #[.int .u8 b] 5))
    have HBT:=jq (HBT.out.trans (But.of_below HT.out))
    have HCK:=jq (HCK.out.keep HT.out)
    have HL:=jq (zaL w5 b HP2.out)
    generalize w5.alloc (.cells #[.int .u8 b] 5)=u6 at *
    clear HT
    refine(push_ck HCK.out (HB0.out.want.pop.pop.need.mono (by omega)) HL.out (by simp)).mono ?_
    rintro e w7 ⟨rfl,hc,hbt⟩
    have HL:=jq (zaG HL.out HCK.out.nobb hbt)
    have HBT:=jq (HBT.out.trans hbt)
    have HCK:=jq hc
    clear hc hbt
    go_wp2_with fail
    exact bodyPost_end (v:=.tuple #[]) (by simp[results,Tryz.results125,go_sem]) rfl ⟨rfl,by rw[HD.out];exact HCK.out,HBT.out⟩
end Go.Proofs.YtlappkflnlbfcaaGreatDoor.Chk
