import Derived.Test.YtlappkflnlbfcaaGreatDoorPkChkM
import Derived.Test.YtlappkflnlbfcaaGreatDoorPkChkI16
import Derived.Deep.RegionLaw
import Derived.Lib.BitFns
import Derived.Laws.Bits64b
namespace Go.Proofs.YtlappkflnlbfcaaGreatDoor.Chk
open Lib renaming hid → jq
open Go.RowKit Row9 Stk
set_option maxRecDepth 100000
set_option maxHeartbeats 8000000
set_option linter.unusedVariables false
theorem index_32 {w:World}{k:Nat}{V:EV}{E:EnvP}{s:Stk}{A B K:Int}{lab:Value}(h:Cx w k V E (.ok s))(hb:Bd (.ok s) 300000)(hf:FnBd E)(hA:w64 A):Calls Tryz.prog 95 #[.pointer (some ⟨k,0,none⟩),.agg #[.int .i64 32,.int .i64 A,.int .i64 B,.int .u64 K,lab]] w (CkEnds w k V E (indexR E 32 A s) (.tuple #[])):=by
 have HA:=jq hA
 have HFB:=jq hf
 clear hf hA
 show Calls _ _ _ _ (CkEnds w k V E (localR 32 ((atL E.locals A).getD 0) (namedR E.locals A (.ok s))) (.tuple #[]))
 have HCK:=jq h
 have HB0:=jq hb
 have HBT:Hid (But k w (w.alloc (.cells #[.int .i64 32,.int .i64 A,.int .i64 B,.int .u64 K,lab] 33))):=But.of_below (zaB w (.cells #[.int .i64 32,.int .i64 A,.int .i64 B,.int .u64 K,lab] 33))
 have HCK:=jq (h.keep (zaB w (.cells #[.int .i64 32,.int .i64 A,.int .i64 B,.int .u64 K,lab] 33)))
 have HX:=jq (zaC w (.cells #[.int .i64 32,.int .i64 A,.int .i64 B,.int .u64 K,lab] 33))
 have HSZ:Hid ((w.alloc (.cells #[.int .i64 32,.int .i64 A,.int .i64 B,.int .u64 K,lab] 33)).heap.size=w.heap.size+1):=zaD _ _
 have HYK:Hid (w.heap.size≠k):=jq (by have:=h.lt;omega)
 clear h hb
 obtain⟨b0,b1,b4⟩:=cells5 HX.out
 have bl:=jl HX.out
 go_enter Tryz.func95,Tryz.ntmps95
 go_wp2_with fail
 clear b0 b1 b4 bl
 generalize w.alloc (.cells #[.int .i64 32,.int .i64 A,.int .i64 B,.int .u64 K,lab] 33)=u0 at *
 obtain⟨y,hy⟩:∃y,w.heap.size=y:=⟨_,rfl⟩
 rw[hy] at HX HYK HSZ
 simp only[hy]
 clear hy
 have HDw:=jq (zaI u0)
 have HCD:=jq (HCK.out.keep HDw.out)
 have HNM:=jq (named_byte (n:=A) HCD.out HCD.out.env.l)
 have HRG:=jq (atB_range HCD.out.env.l A)
 generalize (atL E.locals A).getD 0=v at *
 obtain⟨b0,b1,b4⟩:=cells5 HX.out
 have bl:=jl HX.out
 obtain⟨_,_,_,_,_,_,_,hkh⟩:=HCK.out.heap
 obtain⟨e0,e1,e2,e3,e4,e5,e6⟩:=ckcells hkh
 have ekl:=jl hkh
 go_region_law (first
  | (go_simp;go_at_call 130;(with_reducible refine Calls.mono HNM.out ?_);rintro e w1 ⟨rfl,hc,hbt⟩;have HBT1:=jq ((HBT.out.trans (But.of_below HDw.out)).trans hbt);have HCK1:=jq hc;have HX1:=jq ((hbt.block y (jl (blk HX.out HDw.out)) HYK.out).trans (blk HX.out HDw.out));obtain ⟨b0,b1,b4⟩:=cells5 HX1.out;have bl:=jl HX1.out;clear hc hbt)
  | (go_simp;go_at_call 129;refine Calls.mono (local_ck HCK1.out (HB0.out.need.mono (by omega):Bd (namedR E.locals A (.ok s)) 300000) HRG.out (by omega)) ?_;rintro e w2 ⟨rfl,hc,hbt⟩;have HBT2:=jq (HBT1.out.trans hbt);have HCK2:=jq hc;clear hc hbt))
 all_goals (
  clear b0 b1 b4 bl hkh e0 e1 e2 e3 e4 e5 e6 ekl
  go_wp2_with fail
  exact bodyPost_end (v:=.tuple #[]) (by simp[results,Tryz.results95,go_sem]) rfl ⟨rfl,HCK2.out,HBT2.out⟩)
theorem index_33 {w:World}{k:Nat}{V:EV}{E:EnvP}{s:Stk}{A B K:Int}{lab:Value}(h:Cx w k V E (.ok s))(hb:Bd (.ok s) 300000)(hf:FnBd E)(hA:w64 A):Calls Tryz.prog 95 #[.pointer (some ⟨k,0,none⟩),.agg #[.int .i64 33,.int .i64 A,.int .i64 B,.int .u64 K,lab]] w (CkEnds w k V E (indexR E 33 A s) (.tuple #[])):=by
 have HA:=jq hA
 have HFB:=jq hf
 clear hf hA
 show Calls _ _ _ _ (CkEnds w k V E (localR 33 ((atL E.locals A).getD 0) (namedR E.locals A (.ok s))) (.tuple #[]))
 have HCK:=jq h
 have HB0:=jq hb
 have HBT:Hid (But k w (w.alloc (.cells #[.int .i64 33,.int .i64 A,.int .i64 B,.int .u64 K,lab] 33))):=But.of_below (zaB w (.cells #[.int .i64 33,.int .i64 A,.int .i64 B,.int .u64 K,lab] 33))
 have HCK:=jq (h.keep (zaB w (.cells #[.int .i64 33,.int .i64 A,.int .i64 B,.int .u64 K,lab] 33)))
 have HX:=jq (zaC w (.cells #[.int .i64 33,.int .i64 A,.int .i64 B,.int .u64 K,lab] 33))
 have HSZ:Hid ((w.alloc (.cells #[.int .i64 33,.int .i64 A,.int .i64 B,.int .u64 K,lab] 33)).heap.size=w.heap.size+1):=zaD _ _
 have HYK:Hid (w.heap.size≠k):=jq (by have:=h.lt;omega)
 clear h hb
 obtain⟨b0,b1,b4⟩:=cells5 HX.out
 have bl:=jl HX.out
 go_enter Tryz.func95,Tryz.ntmps95
 go_wp2_with fail
 clear b0 b1 b4 bl
 generalize w.alloc (.cells #[.int .i64 33,.int .i64 A,.int .i64 B,.int .u64 K,lab] 33)=u0 at *
 obtain⟨y,hy⟩:∃y,w.heap.size=y:=⟨_,rfl⟩
 rw[hy] at HX HYK HSZ
 simp only[hy]
 clear hy
 have HDw:=jq (zaI u0)
 have HCD:=jq (HCK.out.keep HDw.out)
 have HNM:=jq (named_byte (n:=A) HCD.out HCD.out.env.l)
 have HRG:=jq (atB_range HCD.out.env.l A)
 generalize (atL E.locals A).getD 0=v at *
 obtain⟨b0,b1,b4⟩:=cells5 HX.out
 have bl:=jl HX.out
 obtain⟨_,_,_,_,_,_,_,hkh⟩:=HCK.out.heap
 obtain⟨e0,e1,e2,e3,e4,e5,e6⟩:=ckcells hkh
 have ekl:=jl hkh
 go_region_law (first
  | (go_simp;go_at_call 130;(with_reducible refine Calls.mono HNM.out ?_);rintro e w1 ⟨rfl,hc,hbt⟩;have HBT1:=jq ((HBT.out.trans (But.of_below HDw.out)).trans hbt);have HCK1:=jq hc;have HX1:=jq ((hbt.block y (jl (blk HX.out HDw.out)) HYK.out).trans (blk HX.out HDw.out));obtain ⟨b0,b1,b4⟩:=cells5 HX1.out;have bl:=jl HX1.out;clear hc hbt)
  | (go_simp;go_at_call 129;refine Calls.mono (local_ck HCK1.out (HB0.out.need.mono (by omega):Bd (namedR E.locals A (.ok s)) 300000) HRG.out (by omega)) ?_;rintro e w2 ⟨rfl,hc,hbt⟩;have HBT2:=jq (HBT1.out.trans hbt);have HCK2:=jq hc;clear hc hbt))
 all_goals (
  clear b0 b1 b4 bl hkh e0 e1 e2 e3 e4 e5 e6 ekl
  go_wp2_with fail
  exact bodyPost_end (v:=.tuple #[]) (by simp[results,Tryz.results95,go_sem]) rfl ⟨rfl,HCK2.out,HBT2.out⟩)
theorem index_34 {w:World}{k:Nat}{V:EV}{E:EnvP}{s:Stk}{A B K:Int}{lab:Value}(h:Cx w k V E (.ok s))(hb:Bd (.ok s) 300000)(hf:FnBd E)(hA:w64 A):Calls Tryz.prog 95 #[.pointer (some ⟨k,0,none⟩),.agg #[.int .i64 34,.int .i64 A,.int .i64 B,.int .u64 K,lab]] w (CkEnds w k V E (indexR E 34 A s) (.tuple #[])):=by
 have HA:=jq hA
 have HFB:=jq hf
 clear hf hA
 show Calls _ _ _ _ (CkEnds w k V E (localR 34 ((atL E.locals A).getD 0) (namedR E.locals A (.ok s))) (.tuple #[]))
 have HCK:=jq h
 have HB0:=jq hb
 have HBT:Hid (But k w (w.alloc (.cells #[.int .i64 34,.int .i64 A,.int .i64 B,.int .u64 K,lab] 33))):=But.of_below (zaB w (.cells #[.int .i64 34,.int .i64 A,.int .i64 B,.int .u64 K,lab] 33))
 have HCK:=jq (h.keep (zaB w (.cells #[.int .i64 34,.int .i64 A,.int .i64 B,.int .u64 K,lab] 33)))
 have HX:=jq (zaC w (.cells #[.int .i64 34,.int .i64 A,.int .i64 B,.int .u64 K,lab] 33))
 have HSZ:Hid ((w.alloc (.cells #[.int .i64 34,.int .i64 A,.int .i64 B,.int .u64 K,lab] 33)).heap.size=w.heap.size+1):=zaD _ _
 have HYK:Hid (w.heap.size≠k):=jq (by have:=h.lt;omega)
 clear h hb
 obtain⟨b0,b1,b4⟩:=cells5 HX.out
 have bl:=jl HX.out
 go_enter Tryz.func95,Tryz.ntmps95
 go_wp2_with fail
 clear b0 b1 b4 bl
 generalize w.alloc (.cells #[.int .i64 34,.int .i64 A,.int .i64 B,.int .u64 K,lab] 33)=u0 at *
 obtain⟨y,hy⟩:∃y,w.heap.size=y:=⟨_,rfl⟩
 rw[hy] at HX HYK HSZ
 simp only[hy]
 clear hy
 have HDw:=jq (zaI u0)
 have HCD:=jq (HCK.out.keep HDw.out)
 have HNM:=jq (named_byte (n:=A) HCD.out HCD.out.env.l)
 have HRG:=jq (atB_range HCD.out.env.l A)
 generalize (atL E.locals A).getD 0=v at *
 obtain⟨b0,b1,b4⟩:=cells5 HX.out
 have bl:=jl HX.out
 obtain⟨_,_,_,_,_,_,_,hkh⟩:=HCK.out.heap
 obtain⟨e0,e1,e2,e3,e4,e5,e6⟩:=ckcells hkh
 have ekl:=jl hkh
 go_region_law (first
  | (go_simp;go_at_call 130;(with_reducible refine Calls.mono HNM.out ?_);rintro e w1 ⟨rfl,hc,hbt⟩;have HBT1:=jq ((HBT.out.trans (But.of_below HDw.out)).trans hbt);have HCK1:=jq hc;have HX1:=jq ((hbt.block y (jl (blk HX.out HDw.out)) HYK.out).trans (blk HX.out HDw.out));obtain ⟨b0,b1,b4⟩:=cells5 HX1.out;have bl:=jl HX1.out;clear hc hbt)
  | (go_simp;go_at_call 129;refine Calls.mono (local_ck HCK1.out (HB0.out.need.mono (by omega):Bd (namedR E.locals A (.ok s)) 300000) HRG.out (by omega)) ?_;rintro e w2 ⟨rfl,hc,hbt⟩;have HBT2:=jq (HBT1.out.trans hbt);have HCK2:=jq hc;clear hc hbt))
 all_goals (
  clear b0 b1 b4 bl hkh e0 e1 e2 e3 e4 e5 e6 ekl
  go_wp2_with fail
  exact bodyPost_end (v:=.tuple #[]) (by simp[results,Tryz.results95,go_sem]) rfl ⟨rfl,HCK2.out,HBT2.out⟩)
theorem index_35 {w:World}{k:Nat}{V:EV}{E:EnvP}{s:Stk}{A B K:Int}{lab:Value}(h:Cx w k V E (.ok s))(hb:Bd (.ok s) 300000)(hf:FnBd E)(hA:w64 A):Calls Tryz.prog 95 #[.pointer (some ⟨k,0,none⟩),.agg #[.int .i64 35,.int .i64 A,.int .i64 B,.int .u64 K,lab]] w (CkEnds w k V E (indexR E 35 A s) (.tuple #[])):=by
 have HA:=jq hA
 have HFB:=jq hf
 clear hf hA
 show Calls _ _ _ _ (CkEnds w k V E (pushR [((atL E.globs A).getD (0,false)).1] (namedR E.globs A (.ok s))) (.tuple #[]))
 have HCK:=jq h
 have HB0:=jq hb
 have HBT:Hid (But k w (w.alloc (.cells #[.int .i64 35,.int .i64 A,.int .i64 B,.int .u64 K,lab] 33))):=But.of_below (zaB w (.cells #[.int .i64 35,.int .i64 A,.int .i64 B,.int .u64 K,lab] 33))
 have HCK:=jq (h.keep (zaB w (.cells #[.int .i64 35,.int .i64 A,.int .i64 B,.int .u64 K,lab] 33)))
 have HX:=jq (zaC w (.cells #[.int .i64 35,.int .i64 A,.int .i64 B,.int .u64 K,lab] 33))
 have HSZ:Hid ((w.alloc (.cells #[.int .i64 35,.int .i64 A,.int .i64 B,.int .u64 K,lab] 33)).heap.size=w.heap.size+1):=zaD _ _
 have HYK:Hid (w.heap.size≠k):=jq (by have:=h.lt;omega)
 clear h hb
 obtain⟨b0,b1,b4⟩:=cells5 HX.out
 have bl:=jl HX.out
 go_enter Tryz.func95,Tryz.ntmps95
 go_wp2_with fail
 clear b0 b1 b4 bl
 generalize w.alloc (.cells #[.int .i64 35,.int .i64 A,.int .i64 B,.int .u64 K,lab] 33)=u0 at *
 obtain⟨y,hy⟩:∃y,w.heap.size=y:=⟨_,rfl⟩
 rw[hy] at HX HYK HSZ
 simp only[hy]
 clear hy
 have HDw:=jq (zaI u0)
 have HCD:=jq (HCK.out.keep HDw.out)
 have HNM:=jq (named_glob (n:=A) HCD.out HCD.out.env.g)
 have HRG:=jq (atG_range HCD.out.env.g A)
 obtain⟨gl,hgl⟩:∃gl,(atL E.globs A).getD (0,false)=gl:=⟨_,rfl⟩
 rw[hgl] at HNM HRG ⊢
 obtain⟨gv,gm⟩:=gl
 have HGL:=jq hgl
 simp only at HNM HRG ⊢
 have hfg:=run_fldG0 gv gm
 obtain⟨b0,b1,b4⟩:=cells5 HX.out
 have bl:=jl HX.out
 obtain⟨_,_,_,_,_,_,_,hkh⟩:=HCK.out.heap
 obtain⟨e0,e1,e2,e3,e4,e5,e6⟩:=ckcells hkh
 have ekl:=jl hkh
 go_region_law (first
  | (go_simp;go_at_call 131;(with_reducible refine Calls.mono HNM.out ?_);rintro e w1 ⟨rfl,hc,hbt⟩;have HBT1:=jq ((HBT.out.trans (But.of_below HDw.out)).trans hbt);have HCK1:=jq hc;have HX1:=jq ((hbt.block y (jl (blk HX.out HDw.out)) HYK.out).trans (blk HX.out HDw.out));obtain ⟨b0,b1,b4⟩:=cells5 HX1.out;have bl:=jl HX1.out;have HNW:=jq (zaB w1 (.cells #[.int .u8 gv] 5));have HLR:=jq (zaL w1 gv HRG.out);clear hc hbt)
  | (go_simp;go_at_call 120;refine Calls.mono (push_ck (HCK1.out.keep HNW.out) (HB0.out.need.mono (by omega):Bd (namedR E.globs A (.ok s)) 400000) HLR.out (by simp)) ?_;rintro e w2 ⟨rfl,hc,hbt⟩;have HBT2:=jq ((HBT1.out.trans (But.of_below HNW.out)).trans hbt);have HCK2:=jq hc;clear hc hbt))
 all_goals (
  clear b0 b1 b4 bl hkh e0 e1 e2 e3 e4 e5 e6 ekl
  go_wp2_with fail
  exact bodyPost_end (v:=.tuple #[]) (by simp[results,Tryz.results95,go_sem]) rfl ⟨rfl,HCK2.out,HBT2.out⟩)
theorem index_36 {w:World}{k:Nat}{V:EV}{E:EnvP}{s:Stk}{A B K:Int}{lab:Value}(h:Cx w k V E (.ok s))(hb:Bd (.ok s) 300000)(hf:FnBd E)(hA:w64 A):Calls Tryz.prog 95 #[.pointer (some ⟨k,0,none⟩),.agg #[.int .i64 36,.int .i64 A,.int .i64 B,.int .u64 K,lab]] w (CkEnds w k V E (indexR E 36 A s) (.tuple #[])):=by
 have HA:=jq hA
 have HFB:=jq hf
 clear hf hA
 show Calls _ _ _ _ (CkEnds w k V E (wantR [((atL E.globs A).getD (0,false)).1] (needR ((atL E.globs A).getD (0,false)).2 5 (namedR E.globs A (.ok s)))) (.tuple #[]))
 have HCK:=jq h
 have HB0:=jq hb
 have HBT:Hid (But k w (w.alloc (.cells #[.int .i64 36,.int .i64 A,.int .i64 B,.int .u64 K,lab] 33))):=But.of_below (zaB w (.cells #[.int .i64 36,.int .i64 A,.int .i64 B,.int .u64 K,lab] 33))
 have HCK:=jq (h.keep (zaB w (.cells #[.int .i64 36,.int .i64 A,.int .i64 B,.int .u64 K,lab] 33)))
 have HX:=jq (zaC w (.cells #[.int .i64 36,.int .i64 A,.int .i64 B,.int .u64 K,lab] 33))
 have HSZ:Hid ((w.alloc (.cells #[.int .i64 36,.int .i64 A,.int .i64 B,.int .u64 K,lab] 33)).heap.size=w.heap.size+1):=zaD _ _
 have HYK:Hid (w.heap.size≠k):=jq (by have:=h.lt;omega)
 clear h hb
 obtain⟨b0,b1,b4⟩:=cells5 HX.out
 have bl:=jl HX.out
 go_enter Tryz.func95,Tryz.ntmps95
 go_wp2_with fail
 clear b0 b1 b4 bl
 generalize w.alloc (.cells #[.int .i64 36,.int .i64 A,.int .i64 B,.int .u64 K,lab] 33)=u0 at *
 obtain⟨y,hy⟩:∃y,w.heap.size=y:=⟨_,rfl⟩
 rw[hy] at HX HYK HSZ
 simp only[hy]
 clear hy
 have HDw:=jq (zaI u0)
 have HCD:=jq (HCK.out.keep HDw.out)
 have HNM:=jq (named_glob (n:=A) HCD.out HCD.out.env.g)
 have HRG:=jq (atG_range HCD.out.env.g A)
 obtain⟨gl,hgl⟩:∃gl,(atL E.globs A).getD (0,false)=gl:=⟨_,rfl⟩
 rw[hgl] at HNM HRG ⊢
 obtain⟨gv,gm⟩:=gl
 have HGL:=jq hgl
 simp only at HNM HRG ⊢
 obtain⟨b0,b1,b4⟩:=cells5 HX.out
 have bl:=jl HX.out
 obtain⟨_,_,_,_,_,_,_,hkh⟩:=HCK.out.heap
 obtain⟨e0,e1,e2,e3,e4,e5,e6⟩:=ckcells hkh
 have ekl:=jl hkh
 have HZW:=jq ((zaB u0 (.cells #[.int .u8 0,.bool false] 82)).drew)
 have HZ0:=jq (show ((u0.alloc (.cells #[.int .u8 0,.bool false] 82)).drew).heap[u0.heap.size]? = _ from zaC u0 (.cells #[.int .u8 0,.bool false] 82))
 have HZK:Hid (u0.heap.size≠k):=jq (by have:=HCK.out.lt;omega)
 have HNZ:=jq (named_globN (n:=A) (HCK.out.keep HZW.out) (HCK.out.env.g.keep HZW.out))
 rw[hgl] at HNZ
 go_region_law (first
  | (go_simp;go_at_call 131;(with_reducible refine Calls.mono HNM.out ?_);rintro e w1 ⟨rfl,hc,hbt⟩;have HBTA:=jq ((HBT.out.trans (But.of_below HDw.out)).trans hbt);have HCKA:=jq hc;have HX1:=jq ((hbt.block y (jl (blk HX.out HDw.out)) HYK.out).trans (blk HX.out HDw.out));obtain ⟨b0,b1,b4⟩:=cells5 HX1.out;have bl:=jl HX1.out;clear hc hbt)
  | (go_simp;go_at_call 131;(with_reducible refine Calls.mono HNZ.out ?_);rintro e w1 ⟨rfl,hor⟩;have HOR:=jq hor;have hbt:=(show But k (u0.alloc (.cells #[.int .u8 0,.bool false] 82)).drew w1 by rcases hor with ⟨_,hb⟩ | ⟨_,_,_,hb⟩;exact But.of_below hb;exact hb);have HBTB:=jq hbt;have HX1:=jq ((hbt.block y (jl (blk HX.out HZW.out)) HYK.out).trans (blk HX.out HZW.out));have HZ1:=jq ((hbt.block u0.heap.size (jl HZ0.out) HZK.out).trans HZ0.out);obtain ⟨z0,z1⟩:=zaH HZ1.out;have zp0:=(zaA HZ1.out 0).2;have zp1:=(zaA HZ1.out 1).2;have zl:=jl HZ1.out;obtain ⟨b0,b1,b4⟩:=cells5 HX1.out;have bl:=jl HX1.out;clear hor hbt))
 all_goals (first
 | (
  have HBT:=jq (HBTA.out.trans (But.of_below (zaB w1 (.cells #[.int .u8 gv,.bool gm] 82))))
  have HCK:=jq (HCKA.out.keep (zaB w1 (.cells #[.int .u8 gv,.bool gm] 82)))
  have HF:=jq (zaC w1 (.cells #[.int .u8 gv,.bool gm] 82))
  have HFK0:Hid (w1.heap.size≠k):=jq (by have:=HCKA.out.lt;omega)
  obtain⟨z,hz⟩:∃z,w1.heap.size=z:=⟨_,rfl⟩
  have HFK:Hid (z≠k):=jq (by rw[<- hz];exact HFK0.out)
  rw[hz] at HF
  simp only[hz]
  clear hz HFK0
  generalize w1.alloc (.cells #[.int .u8 gv,.bool gm] 82)=w2 at *
  clear b0 b1 b4 bl hkh e0 e1 e2 e3 e4 e5 e6 ekl
  obtain⟨f0,f1⟩:=zaH HF.out
  go_wp2_with fail
  clear f0 f1
  refine(need_ck HCK.out (by decide)).mono ?_
  rintro e w3 ⟨rfl,hc,hbt⟩
  have HF:=jq (hbt.bk HF.out HFK.out)
  have HBT:=jq (HBT.out.trans hbt)
  have HCK:=jq hc
  clear hc hbt
  obtain⟨f0,f1⟩:=zaH HF.out
  have fl:=jl HF.out
  go_wp2_with fail
  clear f0 f1 fl
  have HNW:=jq (zaB w3 (.cells #[.int .u8 gv] 5))
  have HLR:=jq (zaL w3 gv HRG.out)
  refine(want_ck (HCK.out.keep HNW.out) (HB0.out.need.need.mono (by omega):Bd (needR gm 5 (namedR E.globs A (.ok s))) 400000) HLR.out (by simp)).mono ?_
  rintro e w4 ⟨rfl,hc,hbt⟩
  have HBT:=jq ((HBT.out.trans (But.of_below HNW.out)).trans hbt)
  have HCK:=jq hc
  clear hc hbt
  go_wp2_with fail
  exact bodyPost_end (v:=.tuple #[]) (by simp[results,Tryz.results95,go_sem]) rfl ⟨rfl,by first | exact HCK.out | (rw[HGL.out];exact HCK.out),HBT.out⟩)
 | (
  have HBB':=jq HBTB.out
  obtain⟨z,hz⟩:∃z,u0.heap.size=z:=⟨_,rfl⟩
  have HFK:Hid (z≠k):=jq (by rw[<- hz];exact HZK.out)
  rw[hz] at HZ1
  simp only[hz]
  have HF:=jq (store2 HZ1.out (.int .u8 gv) (.bool gm))
  have hboth:Cx ((w1.setCell ⟨z,0,none⟩ (.int .u8 gv)).setCell ⟨z,1,none⟩ (.bool gm)) k V E (namedR E.globs A (.ok s))/\But k u0 ((w1.setCell ⟨z,0,none⟩ (.int .u8 gv)).setCell ⟨z,1,none⟩ (.bool gm)):=by
   have hbz:=but_z ((But.of_below (g:=k) HZW.out).trans HBTB.out) hz (w':=(w1.setCell ⟨z,0,none⟩ (.int .u8 gv)).setCell ⟨z,1,none⟩ (.bool gm)) rfl
   refine⟨?_,hbz⟩
   rcases HOR.out with ⟨h2,hb⟩ | ⟨i,h2,hc,hb⟩
   ·rw[h2]
    exact HCK.out.keep (((HZW.out.trans (hb.mono HZW.out.size)).setCell (p:=⟨z,0,none⟩) (Nat.le_of_eq hz) (.int .u8 gv)).setCell (p:=⟨z,1,none⟩) (Nat.le_of_eq hz) (.bool gm))
   ·rw[h2]
    obtain⟨P0,n0,c0,Q0,m0,d0,hk1,_⟩:=hc.er
    exact HCK.out.put hbz (chg_two hk1 HZ1.out (Ne.symm HFK.out)) (fun s' hs'=>by cases hs') hc.ne
  have HCK:=jq hboth.1
  have HBT:=jq (HBT.out.trans hboth.2)
  clear z0 z1 zp0 zp1 zl hz HBB' hboth
  generalize (w1.setCell ⟨z,0,none⟩ (.int .u8 gv)).setCell ⟨z,1,none⟩ (.bool gm)=w2 at *
  clear b0 b1 b4 bl hkh e0 e1 e2 e3 e4 e5 e6 ekl
  obtain⟨f0,f1⟩:=zaH HF.out
  go_wp2_with fail
  clear f0 f1
  refine(need_ck HCK.out (by decide)).mono ?_
  rintro e w3 ⟨rfl,hc,hbt⟩
  have HF:=jq (hbt.bk HF.out HFK.out)
  have HBT:=jq (HBT.out.trans hbt)
  have HCK:=jq hc
  clear hc hbt
  obtain⟨f0,f1⟩:=zaH HF.out
  have fl:=jl HF.out
  go_wp2_with fail
  clear f0 f1 fl
  have HNW:=jq (zaB w3 (.cells #[.int .u8 gv] 5))
  have HLR:=jq (zaL w3 gv HRG.out)
  refine(want_ck (HCK.out.keep HNW.out) (HB0.out.need.need.mono (by omega):Bd (needR gm 5 (namedR E.globs A (.ok s))) 400000) HLR.out (by simp)).mono ?_
  rintro e w4 ⟨rfl,hc,hbt⟩
  have HBT:=jq ((HBT.out.trans (But.of_below HNW.out)).trans hbt)
  have HCK:=jq hc
  clear hc hbt
  go_wp2_with fail
  exact bodyPost_end (v:=.tuple #[]) (by simp[results,Tryz.results95,go_sem]) rfl ⟨rfl,by first | exact HCK.out | (rw[HGL.out];exact HCK.out),HBT.out⟩))
theorem ret_int {k:IntKind}{x y:Int}(h:x=y):Ending.returned (.int k x)=Ending.returned (.int k y):=by rw[h]
theorem tab_size:Lib.len8tab.size=256:=by decide +kernel
theorem tab_all:∀n:Fin 256,(Lib.len8tab[n.val]'(by rw[tab_size];exact n.isLt)).toNat=Lib.bitLen n.val:=by decide +kernel
theorem tab_get (y:Int)(h:y.toNat<Lib.len8tab.size):(Lib.len8tab[y.toNat]'h).toNat=Lib.bitLen y.toNat:=tab_all ⟨y.toNat,by rw[<- tab_size];exact h⟩
theorem len64_sum (k m:Nat)(hk:k<=56)(l:m<=8):wrap64 ((k:Int)+wrap64 (m:Int))=((k+m:Nat):Int):=by
 unfold wrap64
 omega
theorem len64_ways (x y s:Int)(k:Nat)(hx:0<=x)(hx1:x<=18446744073709551615)(hy:y=x / 2 ^ k)(hlo:k=0\/2 ^ k<=x.toNat)(hhi:y<256)(hs:s=k)(hk:k<=56)(h:y.toNat<Lib.len8tab.size):
  wrap64 (s+wrap64 ((Lib.len8tab[y.toNat]'h).toNat:Int))=(Lib.bitLen x.toNat:Int):=by
 rw[tab_get]
 subst hy hs
 have h0:(0:Int)<=x / 2 ^ k:=Int.ediv_nonneg hx (Int.pow_nonneg (by omega))
 have e:x / 2 ^ k=((x.toNat / 2 ^ k:Nat):Int):=by
  rw[Int.natCast_ediv,Int.toNat_of_nonneg hx];simp
 have l:=Lib.bitLen_le8' _ h0 (by omega:x / 2 ^ k<=255)
 rw[e,Int.toNat_natCast] at l ⊢
 have hx2:x.toNat<2 ^ 64:=by omega
 have hb:Lib.bitLen x.toNat=k+Lib.bitLen (x.toNat / 2 ^ k):=by
  rcases hlo with rfl | hlo
  ·simp
  ·exact Lib.bitLen_shift k x.toNat hlo hx2
 rw[hb]
 clear hb hx2 e h0 hlo hhi h hx hx1
 revert l
 generalize Lib.bitLen (x.toNat / 2 ^ k)=m
 intro l
 exact len64_sum k m hk l
theorem len64_any (x:Int)(w:World)(h0:0<=x)(h1:x<=18446744073709551615):Calls Tryz.prog 161 #[.int .u64 x] w fun e w'=>e= .returned (.int .i64 (Lib.bitLen x.toNat))/\w'=w:=by
 have hs:(Lib.len8tab.size:Int)=256:=by rw[tab_size];rfl
 go_enter Tryz.func161,Tryz.ntmps161
 go_wp2
 all_goals (go_ret;refine ⟨ret_int ?_,rfl⟩)
 all_goals first
  | exact len64_ways x _ 56 56 h0 h1 (by omega) (by omega) (by omega) rfl (by omega) _
  | exact len64_ways x _ 48 48 h0 h1 (by omega) (by omega) (by omega) rfl (by omega) _
  | exact len64_ways x _ 40 40 h0 h1 (by omega) (by omega) (by omega) rfl (by omega) _
  | exact len64_ways x _ 32 32 h0 h1 (by omega) (by omega) (by omega) rfl (by omega) _
  | exact len64_ways x _ 24 24 h0 h1 (by omega) (by omega) (by omega) rfl (by omega) _
  | exact len64_ways x _ 16 16 h0 h1 (by omega) (by omega) (by omega) rfl (by omega) _
  | exact len64_ways x _ 8 8 h0 h1 (by omega) (by omega) (by omega) rfl (by omega) _
  | exact len64_ways x _ 0 0 h0 h1 (by omega) (by omega) (by omega) rfl (by omega) _
  | (have:=len64_ways x x 0 0 h0 h1 (by omega) (by omega) (by omega) rfl (by omega) (by rw[tab_size];omega);simpa using this)
theorem len_any (x:Int)(w:World)(h0:0<=x)(h1:x<=18446744073709551615):Calls Tryz.prog 135 #[.int .u64 x] w fun e w'=>e= .returned (.int .i64 (Lib.bitLen x.toNat))/\w'=w:=by
 have HL:=jq (len64_any x w h0 h1)
 generalize (Lib.bitLen x.toNat:Int)=r at *
 clear h0 h1
 go_enter Tryz.func135,Tryz.ntmps135
 go_wp2_with fail
 refine HL.out.mono ?_
 rintro e w1 ⟨rfl,rfl⟩
 go_wp2_with fail
 exact bodyPost_ret (v:=.int .i64 r) (by simp[results,Tryz.results135,go_sem]) rfl ⟨rfl,rfl⟩
theorem len_fit (n A:Int)(h:n=1\/n=2\/n=4\/n=8):decide (A<(Lib.bitLen n.toNat:Int))=fitA A n:=by
 have e1:Lib.bitLen (1:Int).toNat=1:=by decide +kernel
 have e2:Lib.bitLen (2:Int).toNat=2:=by decide +kernel
 have e4:Lib.bitLen (4:Int).toNat=3:=by decide +kernel
 have e8:Lib.bitLen (8:Int).toNat=4:=by decide +kernel
 unfold fitA
 rcases h with rfl | rfl | rfl | rfl
 ·rw[e1]
  by_cases a:A<=0
  ·rw[decide_eq_true (show A<((1:Nat):Int) by omega),decide_eq_true a];rfl
  ·rw[decide_eq_false (show ¬ A<((1:Nat):Int) by omega),decide_eq_false a];simp
 ·rw[e2]
  by_cases a:A<=1
  ·rw[decide_eq_true (show A<((2:Nat):Int) by omega),decide_eq_true a];simp
  ·rw[decide_eq_false (show ¬ A<((2:Nat):Int) by omega),decide_eq_false a,decide_eq_false (show ¬ A<=0 by omega)];simp
 ·rw[e4]
  by_cases a:A<=2
  ·rw[decide_eq_true (show A<((3:Nat):Int) by omega),decide_eq_true a];simp
  ·rw[decide_eq_false (show ¬ A<((3:Nat):Int) by omega),decide_eq_false a,decide_eq_false (show ¬ A<=1 by omega),decide_eq_false (show ¬ A<=0 by omega)];simp
 ·rw[e8]
  by_cases a:A<=3
  ·rw[decide_eq_true (show A<((4:Nat):Int) by omega),decide_eq_true a];simp
  ·rw[decide_eq_false (show ¬ A<((4:Nat):Int) by omega),decide_eq_false a,decide_eq_false (show ¬ A<=2 by omega),decide_eq_false (show ¬ A<=1 by omega),decide_eq_false (show ¬ A<=0 by omega)];simp
theorem ax_six {op:Int}(h:Ins.kd op=6):((Ins.ax op).2.1=1\/(Ins.ax op).2.1=2\/(Ins.ax op).2.1=4\/(Ins.ax op).2.1=8)/\((Ins.ax op).1=127\/(Ins.ax op).1=126):=by
 have h2:op=40\/op=41\/op=44\/op=45\/op=46\/op=47\/op=48\/op=49\/op=50\/op=51\/op=52\/op=53\/op=54\/op=55\/op=58\/op=59\/op=60\/op=61\/op=62:=by
  unfold Ins.kd at h
  split at h
  ·exact absurd h (by decide)
  ·split at h
   ·exact absurd h (by decide)
   ·split at h
    ·exact absurd h (by decide)
    ·split at h
     ·exact absurd h (by decide)
     ·split at h
      ·omega
      ·repeat (first | omega | (split at h))
 rcases h2 with rfl | rfl | rfl | rfl | rfl | rfl | rfl | rfl | rfl | rfl | rfl | rfl | rfl | rfl | rfl | rfl | rfl | rfl | rfl <;> decide
theorem access_ck {w:World}{k:Nat}{V:EV}{E:EnvP}{s:Stk}{op A B K:Int}{lab:Value}(h:Cx w k V E (.ok s))(hb:Bd (.ok s) 300000)(hk:Ins.kd op=6)(hT:Ins.ATab w):Calls Tryz.prog 98 #[.pointer (some ⟨k,0,none⟩),.agg #[.int .i64 op,.int .i64 A,.int .i64 B,.int .u64 K,lab]] w (CkEnds w k V E (accessR E op A s) (.tuple #[])):=by
 have HS6:=jq (ax_six hk)
 have HTA:=jq (hT.keep (zaB w (oJ op A B K lab)))
 have HAC:=jq (Ins.access_any op (w.alloc (oJ op A B K lab)) HTA.out)
 clear hk hT
 have HD:Hid (accessR E op A s=if (Ins.ax op).2.2.2=true then wantR [127,(Ins.ax op).1] (needR (fitA A (Ins.ax op).2.1) 5 (needR (decide (1<=E.mems)) 6 (.ok s))) else pushR [(Ins.ax op).1] (wantR [127] (needR (fitA A (Ins.ax op).2.1) 5 (needR (decide (1<=E.mems)) 6 (.ok s))))):=rfl
 obtain⟨bm,hbm⟩:∃bm,decide (1<=E.mems)=bm:=⟨_,rfl⟩
 rw[hbm] at HD
 generalize Ins.ax op=x at *
 obtain⟨T,n,sg,st⟩:=x
 simp only at HD HS6 HAC
 have hn0:0<=n/\n<=8:=by have:=HS6.out.1;omega
 have HFT:=jq (len_fit n A HS6.out.1)
 obtain⟨r,hr⟩:∃r:Int,(Lib.bitLen n.toNat:Int)=r:=⟨_,rfl⟩
 rw[hr] at HFT
 have HTR:Hid (0<=T/\T<256):=jq (by have:=HS6.out.2;omega)
 obtain⟨bf,hbf⟩:∃bf,decide (A<r)=bf:=⟨_,rfl⟩
 have HFA:Hid (fitA A n=bf):=HFT.out.symm.trans hbf
 rw[HFA.out] at HD
 have hcv:IntKind.u64.wrap n=n:=IntWalk.u64_in _ (by omega)
 have HCK:=jq h
 have HB0:=jq hb
 have HBT:Hid (But k w (w.alloc (oJ op A B K lab))):=But.of_below (zaB w (oJ op A B K lab))
 have HCK:=jq (h.keep (zaB w (oJ op A B K lab)))
 have HX:=jq (zaC w (oJ op A B K lab))
 have HSZ:Hid ((w.alloc (oJ op A B K lab)).heap.size=w.heap.size+1):=zaD _ _
 have HYK:Hid (w.heap.size≠k):=jq (by have:=h.lt;omega)
 clear h hb
 obtain⟨b0,b1,b4⟩:=cells5 HX.out
 have bl:=jl HX.out
 go_enter Tryz.func98,Tryz.ntmps98
 go_wp2_with fail
 clear b0 b1 b4 bl
 generalize w.alloc (oJ op A B K lab)=u0 at *
 obtain⟨y,hy⟩:∃y,w.heap.size=y:=⟨_,rfl⟩
 rw[hy] at HX HYK HSZ
 simp only[hy]
 clear hy
 refine(HAC.out).mono ?_
 rintro e w1 ⟨rfl,hb⟩
 have HX:=jq (blk HX.out hb)
 have HBT:=jq (HBT.out.trans (But.of_below hb))
 have HCK:=jq (HCK.out.keep hb)
 clear hb
 obtain⟨_,_,_,_,_,_,_,hkh⟩:=HCK.out.heap
 obtain⟨e0,e1,e2,e3,e4,e5,e6⟩:=ckcells hkh
 have ekl:=jl hkh
 go_wp2_with fail
 clear hkh e0 e1 e2 e3 e4 e5 e6 ekl
 refine(need_ck HCK.out (by decide)).mono ?_
 rintro e w2 ⟨rfl,hc,hbt⟩
 have HX:=jq (hbt.bk HX.out HYK.out)
 have HBT:=jq (HBT.out.trans hbt)
 have HCK:=jq hc
 clear hc hbt
 have HLN:=jq (len_any n w2.drew (by omega) (by omega))
 rw[hr] at HLN
 have HDw:=jq (zaI w2)
 obtain⟨b0,b1,b4⟩:=cells5 HX.out
 have bl:=jl HX.out
 go_wp2_with fail
 cases st
 ·skip
  go_region_law (first
   | (go_simp;go_at_call 135;(with_reducible refine Calls.mono HLN.out ?_);rintro e w3 ⟨rfl,hw3⟩;obtain rfl:=hw3)
   | (go_simp;go_at_call 59;refine Calls.mono (need_ck (b:=bf) (i:=5) (HCK.out.keep HDw.out) (by decide)) ?_;rintro e w4 ⟨rfl,hc,hbt⟩;have HBT4:=jq ((HBT.out.trans (But.of_below HDw.out)).trans hbt);have HCK4:=jq hc;clear hc hbt))
  all_goals (
   clear b0 b1 b4 bl
   go_wp2_with fail
   have HBT:=jq HBT4.out
   have HCK:=jq HCK4.out
   have HNW:=jq (zaB w4 (.cells #[.int .u8 127] 5))
   have HLR:=jq (zaL w4 127 ⟨by omega,by omega⟩)
   have HBT:=jq (HBT.out.trans (But.of_below HNW.out))
   have HCK:=jq (HCK.out.keep HNW.out)
   refine(want_ck HCK.out (HB0.out.need.need.mono (by omega):Bd (needR bf 5 (needR bm 6 (.ok s))) 400000) HLR.out (by simp)).mono ?_
   rintro e w5 ⟨rfl,hc,hbt⟩
   have HBT:=jq (HBT.out.trans hbt)
   have HCK:=jq hc
   clear hc hbt
   go_wp2_with fail
   have HNW:=jq (zaB w5 (.cells #[.int .u8 T] 5))
   have HLR:=jq (zaL w5 T HTR.out)
   have HBT:=jq (HBT.out.trans (But.of_below HNW.out))
   have HCK:=jq (HCK.out.keep HNW.out)
   refine(push_ck HCK.out (HB0.out.need.need.want.mono (by omega):Bd (wantR [127] (needR bf 5 (needR bm 6 (.ok s)))) 400000) HLR.out (by simp)).mono ?_
   rintro e w6 ⟨rfl,hc,hbt⟩
   have HBT:=jq (HBT.out.trans hbt)
   have HCK:=jq hc
   clear hc hbt
   go_wp2_with fail
   exact bodyPost_end (v:=.tuple #[]) (by simp[results,Tryz.results98,go_sem]) rfl ⟨rfl,by rw[HD.out];exact HCK.out,HBT.out⟩)
 ·skip
  go_region_law (first
   | (go_simp;go_at_call 135;(with_reducible refine Calls.mono HLN.out ?_);rintro e w3 ⟨rfl,hw3⟩;obtain rfl:=hw3)
   | (go_simp;go_at_call 59;refine Calls.mono (need_ck (b:=bf) (i:=5) (HCK.out.keep HDw.out) (by decide)) ?_;rintro e w4 ⟨rfl,hc,hbt⟩;have HBT4:=jq ((HBT.out.trans (But.of_below HDw.out)).trans hbt);have HCK4:=jq hc;clear hc hbt))
  all_goals (
   clear b0 b1 b4 bl
   go_wp2_with fail
   have HBT:=jq HBT4.out
   have HCK:=jq HCK4.out
   have HNW:=jq (zaB w4 (.cells #[.int .u8 127,.int .u8 T] 5))
   have HLR:=jq (row_lit2 w4 127 T ⟨by omega,by omega⟩ HTR.out)
   have HBT:=jq (HBT.out.trans (But.of_below HNW.out))
   have HCK:=jq (HCK.out.keep HNW.out)
   refine(want_ck HCK.out (HB0.out.need.need.mono (by omega):Bd (needR bf 5 (needR bm 6 (.ok s))) 400000) HLR.out (by simp)).mono ?_
   rintro e w5 ⟨rfl,hc,hbt⟩
   have HBT:=jq (HBT.out.trans hbt)
   have HCK:=jq hc
   clear hc hbt
   go_wp2_with fail
   exact bodyPost_end (v:=.tuple #[]) (by simp[results,Tryz.results98,go_sem]) rfl ⟨rfl,by rw[HD.out];exact HCK.out,HBT.out⟩)
theorem StIs.setg {e:TypeId}{hi}{W:World}{y i:Nat}{u v:Value}{s:Stk}{A A':Option Addr}{n c n' c':Nat}{t:TypeId}(h:StIs (elCt e hi) W v s)(hy:W.heap[y]? = some (.cells #[.slice A n c,.slice A' n' c'] t (0,0))):StIs (elCt e hi) (W.setCell ⟨y,i,none⟩ u) v s:=by
 obtain⟨a,b,l,h1,h2,h3,h4⟩:=h
 have hb:∀ {v:Value} {l:List Int},Row elB W v l->Row elB (W.setCell ⟨y,i,none⟩ u) v l:=fun h=>row_box (T:=elB) (fun a=>⟨.u8,a,rfl⟩) (fun p hp=>hp) h hy
 exact⟨a,b,l,h1,hb h2,row_box (T:=elCt e hi) (fun a=>⟨.i64,a.1.op,rfl⟩) (fun p hp=>⟨hb hp.1,hp.2⟩) h3 hy,h4⟩
theorem but_z2 {k z:Nat}{w w3:World}{a b:Value}(h:But k w w3)(hz:w.heap.size<=z):But k w ((w3.setCell ⟨z,0,none⟩ a).setCell ⟨z,1,none⟩ b):=by
 refine⟨h.os,h.tape,h.output,by simp only[zaJ];exact h.size,fun j hj hne=>?_⟩
 have h1:j≠z:=by omega
 rw[chg_set _ z 1 b j (by rw[zaJ];exact Nat.lt_of_lt_of_le hj h.size) (fun e=>h1 (Option.some.inj e)),chg_set w3 z 0 a j (Nat.lt_of_lt_of_le hj h.size) (fun e=>h1 (Option.some.inj e))]
 exact h.block j hj hne
theorem cx_box2 {w w0 wz:World}{k z:Nat}{V:EV}{E:EnvP}{x x0:Rs}(h:Cx w k V E x)(hz:w.heap[z]? = some (.cells #[.slice none 0 0,.slice none 0 0] 51 (0,0)))(hk:z≠k)(h0:w0.heap.size<=z)(hc:Cx w0 k V E x0)(hb:Below w0.heap.size w0 wz){P:Option Addr}{n c:Nat}{Q:Option Addr}{m d:Nat}:Cx ((w.setCell ⟨z,0,none⟩ (.slice P n c)).setCell ⟨z,1,none⟩ (.slice Q m d)) k V E x:=by
 obtain⟨⟨P0,n0,c0,Q0,m0,d0,h1,h2⟩,h3,w1,e1,e2,e3⟩:=h
 have hkz:k≠z:=Ne.symm hk
 have hlt:=hc.lt
 refine⟨⟨P0,n0,c0,Q0,m0,d0,chg_two h1 hz hkz,fun s hs=>StIs.setg (e:=72) (hi:=infoP) (StIs.setg (e:=72) (hi:=infoP) (h2 s hs) hz) (by rw[zaE hz];rfl:(w.setCell ⟨z,0,none⟩ (.slice P n c)).heap[z]? = some (Obj.cells #[.slice P n c,.slice none 0 0] 51 (0,0)))⟩,h3,w1,e1,e2,?_⟩
 have hzw:w1.heap.size<=z:=by omega
 exact(e3.setCell (p:=⟨z,0,none⟩) hzw (.slice P n c)).setCell (p:=⟨z,1,none⟩) hzw (.slice Q m d)
theorem callInd_ck {w:World}{k:Nat}{V:EV}{E:EnvP}{s:Stk}{op A B K:Int}{lab:Value}(h:Cx w k V E (.ok s))(hb:Bd (.ok s) 300000)(hf:FnBd E)(hA:w64 A):Calls Tryz.prog 97 #[.pointer (some ⟨k,0,none⟩),.agg #[.int .i64 op,.int .i64 A,.int .i64 B,.int .u64 K,lab]] w (CkEnds w k V E (callIR E A s) (.tuple #[])):=by
 have HA:=jq hA
 have HFB:=jq hf
 clear hf hA
 have HD:Hid (callIR E A s=callR ((atL E.types A).getD ([],[])) (wantR [127] (namedR E.types A (needR (decide (1<=E.tables)) 6 (.ok s))))):=rfl
 obtain⟨bm,hbm⟩:∃bm,decide (1<=E.tables)=bm:=⟨_,rfl⟩
 rw[hbm] at HD
 have HCK:=jq h
 have HB0:=jq hb
 have HBT:Hid (But k w (w.alloc (oJ op A B K lab))):=But.of_below (zaB w (oJ op A B K lab))
 have HCK:=jq (h.keep (zaB w (oJ op A B K lab)))
 have HX:=jq (zaC w (oJ op A B K lab))
 have HSZ:Hid ((w.alloc (oJ op A B K lab)).heap.size=w.heap.size+1):=zaD _ _
 have HYK:Hid (w.heap.size≠k):=jq (by have:=h.lt;omega)
 clear h hb
 obtain⟨_,_,_,_,_,_,_,hkh⟩:=HCK.out.heap
 obtain⟨e0,e1,e2,e3,e4,e5,e6⟩:=ckcells hkh
 have ekl:=jl hkh
 go_enter Tryz.func97,Tryz.ntmps97
 go_wp2_with fail
 clear hkh e0 e1 e2 e3 e4 e5 e6 ekl
 generalize w.alloc (oJ op A B K lab)=u0 at *
 obtain⟨y,hy⟩:∃y,w.heap.size=y:=⟨_,rfl⟩
 rw[hy] at HX HYK HSZ
 simp only[hy]
 clear hy
 refine(need_ck HCK.out (by decide)).mono ?_
 rintro e w1 ⟨rfl,hc,hbt⟩
 have HX:=jq (hbt.bk HX.out HYK.out)
 have HBT:=jq (HBT.out.trans hbt)
 have HCK:=jq hc
 clear hc hbt
 have HDw:=jq (zaI w1)
 obtain⟨ts,hts,hmt⟩:=HCK.out.env.t
 have HMT:=jq hmt
 have HNM:=jq (named_fn (n:=A) (HCK.out.keep HDw.out) (hts.keep HDw.out))
 rw[hmt] at HNM
 have HZW:=jq ((zaB w1 (.cells #[.slice none 0 0,.slice none 0 0] 51)).drew)
 have HZ0:=jq (show ((w1.alloc (.cells #[.slice none 0 0,.slice none 0 0] 51)).drew).heap[w1.heap.size]? = _ from zaC w1 (.cells #[.slice none 0 0,.slice none 0 0] 51))
 have HZK:Hid (w1.heap.size≠k):=jq (by have:=HCK.out.lt;omega)
 have HNZ:=jq (named_fn (n:=A) (HCK.out.keep HZW.out) (hts.keep HZW.out))
 rw[hmt] at HNZ
 clear hts hmt
 have HTB:=jq (atL_bd HFB.out A)
 generalize (atL E.types A).getD ([],[])=f at *
 obtain⟨b0,b1,b4⟩:=cells5 HX.out
 have bl:=jl HX.out
 obtain⟨_,_,_,_,_,_,_,hkh⟩:=HCK.out.heap
 obtain⟨e0,e1,e2,e3,e4,e5,e6⟩:=ckcells hkh
 have ekl:=jl hkh
 go_wp2_with fail
 go_region_law (first
  | (go_simp;go_at_call 133;(with_reducible refine Calls.mono HNM.out ?_);rintro e w2 ⟨P1,n1,c1,Q1,m1,d1,rfl,hr1,hr2,hc,hbt⟩;have HBTA:=jq ((HBT.out.trans (But.of_below HDw.out)).trans hbt);have HCKA:=jq hc;have HR1:=jq hr1;have HR2:=jq hr2;have HX1:=jq ((hbt.block y (jl (blk HX.out HDw.out)) HYK.out).trans (blk HX.out HDw.out));obtain ⟨b0,b1,b4⟩:=cells5 HX1.out;have bl:=jl HX1.out;clear hc hbt hr1 hr2)
  | (go_simp;go_at_call 133;(with_reducible refine Calls.mono HNZ.out ?_);rintro e w2 ⟨P1,n1,c1,Q1,m1,d1,rfl,hr1,hr2,hc,hbt⟩;have HBTB:=jq ((HBT.out.trans (But.of_below HZW.out)).trans hbt);have HCKB:=jq hc;have HR1:=jq hr1;have HR2:=jq hr2;have HX1:=jq ((hbt.block y (jl (blk HX.out HZW.out)) HYK.out).trans (blk HX.out HZW.out));have HZ1:=jq ((hbt.block w1.heap.size (jl HZ0.out) HZK.out).trans HZ0.out);obtain ⟨z0,z1⟩:=zaH HZ1.out;have zp0:=(zaA HZ1.out 0).2;have zp1:=(zaA HZ1.out 1).2;have zl:=jl HZ1.out;obtain ⟨b0,b1,b4⟩:=cells5 HX1.out;have bl:=jl HX1.out;clear hc hbt hr1 hr2))
 all_goals (first
 | (
  have HBT:=jq (HBTA.out.trans (But.of_below (zaB w2 (.cells #[.slice P1 n1 c1,.slice Q1 m1 d1] 51))))
  have HCK:=jq (HCKA.out.keep (zaB w2 (.cells #[.slice P1 n1 c1,.slice Q1 m1 d1] 51)))
  have HR1:=jq (HR1.out.keep (zaB w2 (.cells #[.slice P1 n1 c1,.slice Q1 m1 d1] 51)))
  have HR2:=jq (HR2.out.keep (zaB w2 (.cells #[.slice P1 n1 c1,.slice Q1 m1 d1] 51)))
  have HF:=jq (zaC w2 (.cells #[.slice P1 n1 c1,.slice Q1 m1 d1] 51))
  have HFK0:Hid (w2.heap.size≠k):=jq (by have:=HCKA.out.lt;omega)
  obtain⟨z,hz⟩:∃z,w2.heap.size=z:=⟨_,rfl⟩
  have HFK:Hid (z≠k):=jq (by rw[<- hz];exact HFK0.out)
  rw[hz] at HF
  simp only[hz]
  clear hz HFK0
  generalize w2.alloc (.cells #[.slice P1 n1 c1,.slice Q1 m1 d1] 51)=w3 at *
  clear b0 b1 b4 bl hkh e0 e1 e2 e3 e4 e5 e6 ekl
  go_wp2_with fail
  have HNW:=jq (zaB w3 (.cells #[.int .u8 127] 5))
  have HLR:=jq (zaL w3 127 ⟨by omega,by omega⟩)
  have HF:=jq (blk HF.out HNW.out)
  have HR1:=jq (HR1.out.keep HNW.out)
  have HR2:=jq (HR2.out.keep HNW.out)
  have HBT:=jq (HBT.out.trans (But.of_below HNW.out))
  have HCK:=jq (HCK.out.keep HNW.out)
  refine(want_ck HCK.out (HB0.out.need.need.mono (by omega):Bd (namedR E.types A (needR bm 6 (.ok s))) 400000) HLR.out (by simp)).mono ?_
  rintro e w4 ⟨rfl,hc,hbt⟩
  have HF:=jq (hbt.bk HF.out HFK.out)
  have HR1:=jq (zaG HR1.out HCK.out.nobb hbt)
  have HR2:=jq (zaG HR2.out HCK.out.nobb hbt)
  have HBT:=jq (HBT.out.trans hbt)
  have HCK:=jq hc
  clear hc hbt
  obtain⟨f0,f1⟩:=zaH HF.out
  go_wp2_with fail
  clear f0 f1
  refine(call_ck HCK.out (HB0.out.need.need.want.mono (by omega):Bd (wantR [127] (namedR E.types A (needR bm 6 (.ok s)))) 300000) HR1.out HR2.out HTB.out.1 HTB.out.2).mono ?_
  rintro e w5 ⟨rfl,hc,hbt⟩
  have HBT:=jq (HBT.out.trans hbt)
  have HCK:=jq hc
  clear hc hbt
  go_wp2_with fail
  exact bodyPost_end (v:=.tuple #[]) (by simp[results,Tryz.results97,go_sem]) rfl ⟨rfl,by rw[HD.out];exact HCK.out,HBT.out⟩)
 | (
  have HBB':=jq HBTB.out
  obtain⟨z,hz⟩:∃z,w1.heap.size=z:=⟨_,rfl⟩
  have HFK:Hid (z≠k):=jq (by rw[<- hz];exact HZK.out)
  rw[hz] at HZ1
  simp only[hz]
  have HF:=jq (store2 HZ1.out (.slice P1 n1 c1) (.slice Q1 m1 d1))
  have hrl:=HCK.out.lt
  have hbz:=cx_box2 HCKB.out HZ1.out HFK.out (Nat.le_of_eq hz) HCK.out (HZW.out) (P:=P1) (n:=n1) (c:=c1) (Q:=Q1) (m:=m1) (d:=d1)
  have HR1:=jq (rowB_box (rowB_box HR1.out HZ1.out (i:=0) (u:=.slice P1 n1 c1)) (zaE HZ1.out _) (i:=1) (u:=.slice Q1 m1 d1))
  have HR2:=jq (rowB_box (rowB_box HR2.out HZ1.out (i:=0) (u:=.slice P1 n1 c1)) (zaE HZ1.out _) (i:=1) (u:=.slice Q1 m1 d1))
  have HCK:=jq hbz
  have HBT:Hid (But k w ((w2.setCell ⟨z,0,none⟩ (.slice P1 n1 c1)).setCell ⟨z,1,none⟩ (.slice Q1 m1 d1))):=but_z2 HBTB.out (Nat.le_trans HBT.out.size (Nat.le_of_eq hz))
  clear z0 z1 zp0 zp1 zl hz HBB' hbz hrl
  generalize (w2.setCell ⟨z,0,none⟩ (.slice P1 n1 c1)).setCell ⟨z,1,none⟩ (.slice Q1 m1 d1)=w3 at *
  clear b0 b1 b4 bl hkh e0 e1 e2 e3 e4 e5 e6 ekl
  go_wp2_with fail
  have HNW:=jq (zaB w3 (.cells #[.int .u8 127] 5))
  have HLR:=jq (zaL w3 127 ⟨by omega,by omega⟩)
  have HF:=jq (blk HF.out HNW.out)
  have HR1:=jq (HR1.out.keep HNW.out)
  have HR2:=jq (HR2.out.keep HNW.out)
  have HBT:=jq (HBT.out.trans (But.of_below HNW.out))
  have HCK:=jq (HCK.out.keep HNW.out)
  refine(want_ck HCK.out (HB0.out.need.need.mono (by omega):Bd (namedR E.types A (needR bm 6 (.ok s))) 400000) HLR.out (by simp)).mono ?_
  rintro e w4 ⟨rfl,hc,hbt⟩
  have HF:=jq (hbt.bk HF.out HFK.out)
  have HR1:=jq (zaG HR1.out HCK.out.nobb hbt)
  have HR2:=jq (zaG HR2.out HCK.out.nobb hbt)
  have HBT:=jq (HBT.out.trans hbt)
  have HCK:=jq hc
  clear hc hbt
  obtain⟨f0,f1⟩:=zaH HF.out
  go_wp2_with fail
  clear f0 f1
  refine(call_ck HCK.out (HB0.out.need.need.want.mono (by omega):Bd (wantR [127] (namedR E.types A (needR bm 6 (.ok s)))) 300000) HR1.out HR2.out HTB.out.1 HTB.out.2).mono ?_
  rintro e w5 ⟨rfl,hc,hbt⟩
  have HBT:=jq (HBT.out.trans hbt)
  have HCK:=jq hc
  clear hc hbt
  go_wp2_with fail
  exact bodyPost_end (v:=.tuple #[]) (by simp[results,Tryz.results97,go_sem]) rfl ⟨rfl,by rw[HD.out];exact HCK.out,HBT.out⟩))
end Go.Proofs.YtlappkflnlbfcaaGreatDoor.Chk
