import Derived.Test.YtlappkflnlbfcaaGreatDoorPkChkM
import Derived.Deep.RegionLaw
namespace Go.Proofs.YtlappkflnlbfcaaGreatDoor.Chk
open Lib renaming hid → jq
open Go.RowKit Row9 Stk
set_option maxRecDepth 100000
set_option maxHeartbeats 8000000
set_option linter.unusedVariables false
theorem run_fldG0 (a:Int)(b:Bool)(W:World):(Instr.field 82 (.agg #[.int .u8 a,.bool b]) 0).run Tryz.prog W= .ok (.int .u8 a) W:=by rfl
theorem run_fldC1 (a c:Int)(P:Option Addr)(n m:Nat)(d:Bool)(W:World):(Instr.field 72 (.agg #[.int .i64 a,.slice P n m,.int .i64 c,.bool d]) 1).run Tryz.prog W= .ok (.slice P n m) W:=by rfl
theorem index_12 {w:World}{k:Nat}{V:EV}{E:EnvP}{s:Stk}{A B K:Int}{lab:Value}(h:Cx w k V E (.ok s))(hb:Bd (.ok s) 300000)(hf:FnBd E)(hA:w64 A):Calls Tryz.prog 95 #[.pointer (some ⟨k,0,none⟩),.agg #[.int .i64 12,.int .i64 A,.int .i64 B,.int .u64 K,lab]] w (CkEnds w k V E (indexR E 12 A s) (.tuple #[])):=by
 have HA:=jq hA
 have HFB:=jq hf
 clear hf hA
 show Calls _ _ _ _ (CkEnds w k V E (killR (wantR (labelL A (.ok s)) (labelR A (.ok s)))) (.tuple #[]))
 have HCK:=jq h
 have HB0:=jq hb
 have HBT:Hid (But k w (w.alloc (.cells #[.int .i64 12,.int .i64 A,.int .i64 B,.int .u64 K,lab] 33))):=But.of_below (zaB w (.cells #[.int .i64 12,.int .i64 A,.int .i64 B,.int .u64 K,lab] 33))
 have HCK:=jq (h.keep (zaB w (.cells #[.int .i64 12,.int .i64 A,.int .i64 B,.int .u64 K,lab] 33)))
 have HX:=jq (zaC w (.cells #[.int .i64 12,.int .i64 A,.int .i64 B,.int .u64 K,lab] 33))
 have HSZ:Hid ((w.alloc (.cells #[.int .i64 12,.int .i64 A,.int .i64 B,.int .u64 K,lab] 33)).heap.size=w.heap.size+1):=zaD _ _
 have HYK:Hid (w.heap.size≠k):=jq (by have:=h.lt;omega)
 clear h hb
 obtain⟨b0,b1,b4⟩:=cells5 HX.out
 have bl:=jl HX.out
 go_enter Tryz.func95,Tryz.ntmps95
 go_wp2_with fail
 clear b0 b1 b4 bl
 generalize w.alloc (.cells #[.int .i64 12,.int .i64 A,.int .i64 B,.int .u64 K,lab] 33)=u0 at *
 obtain⟨y,hy⟩:∃y,w.heap.size=y:=⟨_,rfl⟩
 rw[hy] at HX HYK HSZ
 simp only[hy]
 clear hy
 refine(label_ck HCK.out (HB0.out.mono (by omega)) HA.out).mono ?_
 rintro e w1 ⟨P1,n1,c1,rfl,hl,hc,hbt⟩
 have HX:=jq (hbt.bk HX.out HYK.out)
 have HBT:=jq (HBT.out.trans hbt)
 have HCK:=jq hc
 have HLb:=jq hl
 clear hc hbt hl
 go_wp2_with fail
 refine(want_ck HCK.out (HB0.out.label.mono (by omega)) HLb.out (l1 _ _)).mono ?_
 rintro e w2 ⟨rfl,hc,hbt⟩
 have HLb:=jq (zaG HLb.out HCK.out.nobb hbt)
 have HX:=jq (hbt.bk HX.out HYK.out)
 have HBT:=jq (HBT.out.trans hbt)
 have HCK:=jq hc
 clear hc hbt
 go_wp2_with fail
 refine(kill_ck HCK.out (HB0.out.label.want.mono (by omega))).mono ?_
 rintro e w3 ⟨rfl,hc,hbt⟩
 have HLb:=jq (zaG HLb.out HCK.out.nobb hbt)
 have HX:=jq (hbt.bk HX.out HYK.out)
 have HBT:=jq (HBT.out.trans hbt)
 have HCK:=jq hc
 clear hc hbt
 go_wp2_with fail
 exact bodyPost_end (v:=.tuple #[]) (by simp[results,Tryz.results95,go_sem]) rfl ⟨rfl,HCK.out,HBT.out⟩
theorem index_13 {w:World}{k:Nat}{V:EV}{E:EnvP}{s:Stk}{A B K:Int}{lab:Value}(h:Cx w k V E (.ok s))(hb:Bd (.ok s) 300000)(hf:FnBd E)(hA:w64 A):Calls Tryz.prog 95 #[.pointer (some ⟨k,0,none⟩),.agg #[.int .i64 13,.int .i64 A,.int .i64 B,.int .u64 K,lab]] w (CkEnds w k V E (indexR E 13 A s) (.tuple #[])):=by
 have HA:=jq hA
 have HFB:=jq hf
 clear hf hA
 show Calls _ _ _ _ (CkEnds w k V E (pushR (labelL A (.ok s)) (wantR (labelL A (.ok s)) (wantR [127] (labelR A (.ok s))))) (.tuple #[]))
 have HCK:=jq h
 have HB0:=jq hb
 have HBT:Hid (But k w (w.alloc (.cells #[.int .i64 13,.int .i64 A,.int .i64 B,.int .u64 K,lab] 33))):=But.of_below (zaB w (.cells #[.int .i64 13,.int .i64 A,.int .i64 B,.int .u64 K,lab] 33))
 have HCK:=jq (h.keep (zaB w (.cells #[.int .i64 13,.int .i64 A,.int .i64 B,.int .u64 K,lab] 33)))
 have HX:=jq (zaC w (.cells #[.int .i64 13,.int .i64 A,.int .i64 B,.int .u64 K,lab] 33))
 have HSZ:Hid ((w.alloc (.cells #[.int .i64 13,.int .i64 A,.int .i64 B,.int .u64 K,lab] 33)).heap.size=w.heap.size+1):=zaD _ _
 have HYK:Hid (w.heap.size≠k):=jq (by have:=h.lt;omega)
 clear h hb
 obtain⟨b0,b1,b4⟩:=cells5 HX.out
 have bl:=jl HX.out
 go_enter Tryz.func95,Tryz.ntmps95
 go_wp2_with fail
 clear b0 b1 b4 bl
 generalize w.alloc (.cells #[.int .i64 13,.int .i64 A,.int .i64 B,.int .u64 K,lab] 33)=u0 at *
 obtain⟨y,hy⟩:∃y,w.heap.size=y:=⟨_,rfl⟩
 rw[hy] at HX HYK HSZ
 simp only[hy]
 clear hy
 refine(label_ck HCK.out (HB0.out.mono (by omega)) HA.out).mono ?_
 rintro e w1 ⟨P1,n1,c1,rfl,hl,hc,hbt⟩
 have HX:=jq (hbt.bk HX.out HYK.out)
 have HBT:=jq (HBT.out.trans hbt)
 have HCK:=jq hc
 have HLb:=jq hl
 clear hc hbt hl
 go_wp2_with fail
 have HT:=jq (zaB w1 (.cells #[.int .u8 127] 5))
 have HLb:=jq (HLb.out.keep HT.out)
 have HX:=jq (blk HX.out HT.out)
 have HBT:=jq (HBT.out.trans (But.of_below HT.out))
 have HCK:=jq (HCK.out.keep HT.out)
 have HL:=jq (zaL w1 127 ⟨by omega,by omega⟩)
 generalize w1.alloc (.cells #[.int .u8 127] 5)=u2 at *
 clear HT
 refine(want_ck HCK.out (HB0.out.label.mono (by omega)) HL.out (by simp)).mono ?_
 rintro e w3 ⟨rfl,hc,hbt⟩
 have HLb:=jq (zaG HLb.out HCK.out.nobb hbt)
 have HL:=jq (zaG HL.out HCK.out.nobb hbt)
 have HX:=jq (hbt.bk HX.out HYK.out)
 have HBT:=jq (HBT.out.trans hbt)
 have HCK:=jq hc
 clear hc hbt
 go_wp2_with fail
 clear HL
 refine(want_ck HCK.out (HB0.out.label.want.mono (by omega)) HLb.out (l1 _ _)).mono ?_
 rintro e w4 ⟨rfl,hc,hbt⟩
 have HLb:=jq (zaG HLb.out HCK.out.nobb hbt)
 have HX:=jq (hbt.bk HX.out HYK.out)
 have HBT:=jq (HBT.out.trans hbt)
 have HCK:=jq hc
 clear hc hbt
 go_wp2_with fail
 refine(push_ck HCK.out (HB0.out.label.want.want.mono (by omega)) HLb.out (l1 _ _)).mono ?_
 rintro e w5 ⟨rfl,hc,hbt⟩
 have HLb:=jq (zaG HLb.out HCK.out.nobb hbt)
 have HX:=jq (hbt.bk HX.out HYK.out)
 have HBT:=jq (HBT.out.trans hbt)
 have HCK:=jq hc
 clear hc hbt
 go_wp2_with fail
 exact bodyPost_end (v:=.tuple #[]) (by simp[results,Tryz.results95,go_sem]) rfl ⟨rfl,HCK.out,HBT.out⟩
theorem need_eq {b b':Bool}{i:Int}{x:Rs}(h:b=b'):needR b i x=needR b' i x:=by rw[h]
theorem last_op {s:Stk}{l:List CtV}{j:Nat}{p:CtV}(hl:l.map (·.1)=s.cs)(hm:l.length=j+1)(hp:l[j]? = some p):lastOp s=p.1.op:=by
 unfold lastOp
 rw[<- hl,List.getLast?_eq_getElem?,List.length_map,hm,Nat.add_sub_cancel,List.getElem?_map,hp]
 rfl
theorem turn_ck {w:World}{k:Nat}{V:EV}{E:EnvP}{s:Stk}(h:Cx w k V E (.ok s))(hb:Bd (.ok s) 300000):Calls Tryz.prog 121 #[.pointer (some ⟨k,0,none⟩)] w (CkEnds w k V E (turnR s) (.tuple #[])):=by
 obtain⟨P,n,c,Q,m,d,h1,hs⟩:=h.ok
 obtain⟨l,_,hrc,hml,_,hnl,hnc⟩:=hs.rows
 have c8:=(zaA h1 8).1
 have hkl:=h.lt
 have c8:w.cell? ⟨k,8,none⟩=some (.slice Q m d):=c8
 have H:=jq h
 have HB0:=jq hb
 rcases m with _ | j
 ·have HD:Hid ((decide (0<s.cs.length) && (lastOp s == 4))=false):=by show _=_;rw[hnc];rfl
  clear h hb h1 hs hrc hml hnl hnc
  go_enter Tryz.func121,Tryz.ntmps121
  go_wp2_with fail
  clear c8 hkl
  refine(need_ck (b:=false) H.out (by decide)).mono ?_
  rintro e w1 ⟨rfl,hc,hbt⟩
  have HBT:=jq hbt
  have HCK:=jq hc
  rw[<- need_eq HD.out] at HCK
  clear hc hbt
  go_wp2_with fail
  refine(close_ck HCK.out (HB0.out.need.mono (by omega))).mono ?_
  rintro e w2 ⟨P1,n1,c1,rfl,hl,hc,hbt⟩
  have HBT:=jq (HBT.out.trans hbt)
  have HCK:=jq hc
  have HR:=jq hl
  have hfc:=fun W=>run_fldC1 (closedC (needR (decide (0<s.cs.length) && (lastOp s == 4)) 5 (.ok s))).op (closedC (needR (decide (0<s.cs.length) && (lastOp s == 4)) 5 (.ok s))).ht P1 n1 c1 (closedC (needR (decide (0<s.cs.length) && (lastOp s == 4)) 5 (.ok s))).dead W
  clear hc hbt hl
  go_wp2_with fail
  clear hfc
  refine(open_ck HCK.out (HB0.out.need.close.mono (by omega)) (⟨by decide,by decide⟩:w64 5) HR.out (Nat.le_trans (closed_len _) (by omega))).mono ?_
  rintro e w3 ⟨rfl,hc,hbt⟩
  have HBT:=jq (HBT.out.trans hbt)
  have HCK:=jq hc
  clear hc hbt
  go_wp2_with fail
  exact bodyPost_end (v:=.tuple #[]) (by simp[results,Tryz.results121,go_sem]) rfl ⟨rfl,HCK.out,HBT.out⟩
 ·obtain ⟨p,hp⟩:∃p,l[j]? = some p:=⟨_,List.getElem?_eq_getElem (by omega)⟩
  obtain⟨g,off,rfl,hg,k0,_,_,_,_⟩:=ctl_at hrc hp
  obtain⟨q,hq⟩:∃q,(p.1.op == 4)=q:=⟨_,rfl⟩
  have HD:Hid ((decide (0<s.cs.length) && (lastOp s == 4))=q):=by
   show _=_
   rw[hnc,decide_eq_true (by omega),last_op hml hnl hp,hq]
   rfl
  obtain⟨qq,hqq⟩:∃qq,off+j*4=qq:=⟨_,rfl⟩
  rw[hqq] at k0
  have hjb:j+1<=300000:=by have:=(HB0.out s rfl).2;omega
  have t1:decide ((0:Int)<((j+1:Nat):Int))=true:=decide_eq_true (by omega)
  have t1':decide (0<j+1)=true:=decide_eq_true (by omega)
  have t3:IntKind.i64.wrap (((j+1:Nat):Int) - 1)=(j:Int):=by rw[IntWalk.i64_in _ (by omega)];omega
  have t3':IntKind.i64.wrap ((j:Int)+1 - 1)=(j:Int):=by rw[IntWalk.i64_in _ (by omega)];omega
  have i1:(0:Int)<=(j:Int):=by omega
  have i2:(j:Int)<((j+1:Nat):Int):=by omega
  clear h hb h1 hs hrc hml hnl hnc hp hg
  go_enter Tryz.func121,Tryz.ntmps121
  go_wp2_with fail
  clear c8 hkl k0
  refine(need_ck (b:=q) H.out (by decide)).mono ?_
  rintro e w1 ⟨rfl,hc,hbt⟩
  have HBT:=jq hbt
  have HCK:=jq hc
  rw[<- need_eq HD.out] at HCK
  clear hc hbt
  go_wp2_with fail
  refine(close_ck HCK.out (HB0.out.need.mono (by omega))).mono ?_
  rintro e w2 ⟨P1,n1,c1,rfl,hl,hc,hbt⟩
  have HBT:=jq (HBT.out.trans hbt)
  have HCK:=jq hc
  have HR:=jq hl
  have hfc:=fun W=>run_fldC1 (closedC (needR (decide (0<s.cs.length) && (lastOp s == 4)) 5 (.ok s))).op (closedC (needR (decide (0<s.cs.length) && (lastOp s == 4)) 5 (.ok s))).ht P1 n1 c1 (closedC (needR (decide (0<s.cs.length) && (lastOp s == 4)) 5 (.ok s))).dead W
  clear hc hbt hl
  go_wp2_with fail
  clear hfc
  refine(open_ck HCK.out (HB0.out.need.close.mono (by omega)) (⟨by decide,by decide⟩:w64 5) HR.out (Nat.le_trans (closed_len _) (by omega))).mono ?_
  rintro e w3 ⟨rfl,hc,hbt⟩
  have HBT:=jq (HBT.out.trans hbt)
  have HCK:=jq hc
  clear hc hbt
  go_wp2_with fail
  exact bodyPost_end (v:=.tuple #[]) (by simp[results,Tryz.results121,go_sem]) rfl ⟨rfl,HCK.out,HBT.out⟩
theorem end_ck {w:World}{k:Nat}{V:EV}{E:EnvP}{s:Stk}(h:Cx w k V E (.ok s))(hb:Bd (.ok s) 300000):Calls Tryz.prog 122 #[.pointer (some ⟨k,0,none⟩)] w (CkEnds w k V E (endR s) (.tuple #[])):=by
 obtain⟨P,n,c,Q,m,d,h1,hs⟩:=h.ok
 obtain⟨l,_,hrc,hml,_,hnl,hnc⟩:=hs.rows
 have c8:w.cell? ⟨k,8,none⟩=some (.slice Q m d):=(zaA h1 8).1
 have hkl:=h.lt
 have H:=jq h
 have HB0:=jq hb
 obtain⟨q,hq⟩:∃q,decide ((2:Int)<=(m:Int))=q:=⟨_,rfl⟩
 have hq':decide (2<=m)=q:=by rw[<- hq];by_cases e:2<=m <;> simp[e] <;> omega
 have HD:Hid (decide (2<=s.cs.length)=q):=by show _=_;rw[hnc];exact hq'
 clear h hb h1 hs hrc hml hnl hnc
 go_enter Tryz.func122,Tryz.ntmps122
 go_wp2_with fail
 clear c8 hkl
 refine(need_ck (b:=q) H.out (by decide)).mono ?_
 rintro e w1 ⟨rfl,hc,hbt⟩
 have HBT:=jq hbt
 have HCK:=jq hc
 rw[<- need_eq HD.out] at HCK
 clear hc hbt hq hq'
 go_wp2_with fail
 refine(close_ck HCK.out (HB0.out.need.mono (by omega))).mono ?_
 have HDD:Hid (endR s=pushR (closedC (needR (decide (2<=s.cs.length)) 5 (.ok s))).fin (needR (((closedC (needR (decide (2<=s.cs.length)) 5 (.ok s))).op != 4) || ((closedC (needR (decide (2<=s.cs.length)) 5 (.ok s))).fin.length == 0)) 5 (closeR (needR (decide (2<=s.cs.length)) 5 (.ok s))))):=rfl
 have HCL:=jq (closed_len (needR (decide (2<=s.cs.length)) 5 (.ok s)))
 generalize closedC (needR (decide (2<=s.cs.length)) 5 (.ok s))=cl at *
 obtain⟨op,fin,ht,dd⟩:=cl
 rintro e w2 ⟨P1,n1,c1,rfl,hl,hc,hbt⟩
 simp only at hl HDD HCL
 have hn1:fin.length=n1:=by
  obtain⟨A,c',e,_⟩:=hl.form
  injection e with _ e _
  exact e.symm
 rw[hn1] at HDD HCL
 have HT:=jq (zaB w2 (.cells #[.int .i64 op,.slice P1 n1 c1,.int .i64 ht,.bool dd] 72))
 have HF:=jq (zaC w2 (.cells #[.int .i64 op,.slice P1 n1 c1,.int .i64 ht,.bool dd] 72))
 have HBT:=jq ((HBT.out.trans hbt).trans (But.of_below HT.out))
 have HCK:=jq (hc.keep HT.out)
 have HR:=jq (hl.keep HT.out)
 have HFK:Hid (w2.heap.size≠k):=jq (by have:=hc.lt;omega)
 have HN1:=jq hn1
 clear hc hbt hl hn1
 obtain⟨f0,f1,f2,f3⟩:=cells4 HF.out
 obtain⟨q1,hq1⟩:∃q,(op != 4)=q:=⟨_,rfl⟩
 obtain⟨q2,hq2⟩:∃q,((n1:Int) == 0)=q:=⟨_,rfl⟩
 have hq2':(n1 == 0)=q2:=by rw[<- hq2];cases n1 <;> rfl
 have HE:Hid (endR s=pushR fin (needR (q1 || q2) 5 (closeR (needR (decide (2<=s.cs.length)) 5 (.ok s))))):=by show _=_;rw[HDD.out,hq1,hq2']
 cases q1 <;> cases q2
 all_goals (
  go_wp2_with fail
  clear f0 f1 f2 f3
  generalize w2.alloc (.cells #[.int .i64 op,.slice P1 n1 c1,.int .i64 ht,.bool dd] 72)=w3 at *
  obtain⟨z,hz⟩:∃z,w2.heap.size=z:=⟨_,rfl⟩
  rw[hz] at HF HFK
  simp only[hz]
  clear hz HT
  refine(need_ck HCK.out (by decide)).mono ?_
  rintro e w4 ⟨rfl,hc,hbt⟩
  have HF:=jq (hbt.bk HF.out HFK.out)
  have HR:=jq (zaG HR.out HCK.out.nobb hbt)
  have HBT:=jq (HBT.out.trans hbt)
  have HCK:=jq hc
  clear hc hbt
  obtain⟨f0,f1,f2,f3⟩:=cells4 HF.out
  go_wp2_with fail
  clear f0 f1 f2 f3
  refine(push_ck HCK.out (HB0.out.need.close.need.mono (by omega)) HR.out (by have:=HCL.out;have:=HN1.out;omega)).mono ?_
  rintro e w5 ⟨rfl,hc,hbt⟩
  have HBT:=jq (HBT.out.trans hbt)
  have HCK:=jq hc
  clear hc hbt
  go_wp2_with fail
  exact bodyPost_end (v:=.tuple #[]) (by simp[results,Tryz.results122,go_sem]) rfl ⟨rfl,by rw[HE.out];exact HCK.out,HBT.out⟩)
theorem plain_0 {w:World}{k:Nat}{V:EV}{E:EnvP}{s:Stk}{A B K:Int}{lab:Value}(h:Cx w k V E (.ok s))(hb:Bd (.ok s) 300000)(hf:FnBd E):Calls Tryz.prog 93 #[.pointer (some ⟨k,0,none⟩),.agg #[.int .i64 0,.int .i64 A,.int .i64 B,.int .u64 K,lab]] w (CkEnds w k V E (plainR E 0 s) (.tuple #[])):=by
 have HFB:=jq hf
 clear hf
 have HCK:=jq h
 have HB0:=jq hb
 have HBT:Hid (But k w (w.alloc (.cells #[.int .i64 0,.int .i64 A,.int .i64 B,.int .u64 K,lab] 33))):=But.of_below (zaB w (.cells #[.int .i64 0,.int .i64 A,.int .i64 B,.int .u64 K,lab] 33))
 have HCK:=jq (h.keep (zaB w (.cells #[.int .i64 0,.int .i64 A,.int .i64 B,.int .u64 K,lab] 33)))
 have HX:=jq (zaC w (.cells #[.int .i64 0,.int .i64 A,.int .i64 B,.int .u64 K,lab] 33))
 have HSZ:Hid ((w.alloc (.cells #[.int .i64 0,.int .i64 A,.int .i64 B,.int .u64 K,lab] 33)).heap.size=w.heap.size+1):=zaD _ _
 have HYK:Hid (w.heap.size≠k):=jq (by have:=h.lt;omega)
 clear h hb
 obtain⟨b0,b1,b4⟩:=cells5 HX.out
 have bl:=jl HX.out
 go_enter Tryz.func93,Tryz.ntmps93
 go_wp2_with fail
 clear b0 b1 b4 bl
 generalize w.alloc (.cells #[.int .i64 0,.int .i64 A,.int .i64 B,.int .u64 K,lab] 33)=u0 at *
 obtain⟨y,hy⟩:∃y,w.heap.size=y:=⟨_,rfl⟩
 rw[hy] at HX HYK HSZ
 simp only[hy]
 clear hy
 refine(kill_ck HCK.out (HB0.out.mono (by omega))).mono ?_
 rintro e w1 ⟨rfl,hc,hbt⟩
 have HX:=jq (hbt.bk HX.out HYK.out)
 have HBT:=jq (HBT.out.trans hbt)
 have HCK:=jq hc
 clear hc hbt
 go_wp2_with fail
 exact bodyPost_end (v:=.tuple #[]) (by simp[results,Tryz.results93,go_sem]) rfl ⟨rfl,HCK.out,HBT.out⟩
theorem plain_1 {w:World}{k:Nat}{V:EV}{E:EnvP}{s:Stk}{A B K:Int}{lab:Value}(h:Cx w k V E (.ok s))(hb:Bd (.ok s) 300000)(hf:FnBd E):Calls Tryz.prog 93 #[.pointer (some ⟨k,0,none⟩),.agg #[.int .i64 1,.int .i64 A,.int .i64 B,.int .u64 K,lab]] w (CkEnds w k V E (plainR E 1 s) (.tuple #[])):=by
 have HFB:=jq hf
 clear hf
 have HCK:=jq h
 have HB0:=jq hb
 have HBT:Hid (But k w (w.alloc (.cells #[.int .i64 1,.int .i64 A,.int .i64 B,.int .u64 K,lab] 33))):=But.of_below (zaB w (.cells #[.int .i64 1,.int .i64 A,.int .i64 B,.int .u64 K,lab] 33))
 have HCK:=jq (h.keep (zaB w (.cells #[.int .i64 1,.int .i64 A,.int .i64 B,.int .u64 K,lab] 33)))
 have HX:=jq (zaC w (.cells #[.int .i64 1,.int .i64 A,.int .i64 B,.int .u64 K,lab] 33))
 have HSZ:Hid ((w.alloc (.cells #[.int .i64 1,.int .i64 A,.int .i64 B,.int .u64 K,lab] 33)).heap.size=w.heap.size+1):=zaD _ _
 have HYK:Hid (w.heap.size≠k):=jq (by have:=h.lt;omega)
 clear h hb
 obtain⟨b0,b1,b4⟩:=cells5 HX.out
 have bl:=jl HX.out
 go_enter Tryz.func93,Tryz.ntmps93
 go_wp2_with fail
 clear b0 b1 b4 bl
 generalize w.alloc (.cells #[.int .i64 1,.int .i64 A,.int .i64 B,.int .u64 K,lab] 33)=u0 at *
 obtain⟨y,hy⟩:∃y,w.heap.size=y:=⟨_,rfl⟩
 rw[hy] at HX HYK HSZ
 simp only[hy]
 clear hy
 refine(push_ck HCK.out (HB0.out.mono (by omega)) (Row.nil _ _) (by simp)).mono ?_
 rintro e w1 ⟨rfl,hc,hbt⟩
 have HX:=jq (hbt.bk HX.out HYK.out)
 have HBT:=jq (HBT.out.trans hbt)
 have HCK:=jq hc
 clear hc hbt
 go_wp2_with fail
 exact bodyPost_end (v:=.tuple #[]) (by simp[results,Tryz.results93,go_sem]) rfl ⟨rfl,HCK.out,HBT.out⟩
theorem plain_5 {w:World}{k:Nat}{V:EV}{E:EnvP}{s:Stk}{A B K:Int}{lab:Value}(h:Cx w k V E (.ok s))(hb:Bd (.ok s) 300000)(hf:FnBd E):Calls Tryz.prog 93 #[.pointer (some ⟨k,0,none⟩),.agg #[.int .i64 5,.int .i64 A,.int .i64 B,.int .u64 K,lab]] w (CkEnds w k V E (plainR E 5 s) (.tuple #[])):=by
 have HFB:=jq hf
 clear hf
 have HCK:=jq h
 have HB0:=jq hb
 have HBT:Hid (But k w (w.alloc (.cells #[.int .i64 5,.int .i64 A,.int .i64 B,.int .u64 K,lab] 33))):=But.of_below (zaB w (.cells #[.int .i64 5,.int .i64 A,.int .i64 B,.int .u64 K,lab] 33))
 have HCK:=jq (h.keep (zaB w (.cells #[.int .i64 5,.int .i64 A,.int .i64 B,.int .u64 K,lab] 33)))
 have HX:=jq (zaC w (.cells #[.int .i64 5,.int .i64 A,.int .i64 B,.int .u64 K,lab] 33))
 have HSZ:Hid ((w.alloc (.cells #[.int .i64 5,.int .i64 A,.int .i64 B,.int .u64 K,lab] 33)).heap.size=w.heap.size+1):=zaD _ _
 have HYK:Hid (w.heap.size≠k):=jq (by have:=h.lt;omega)
 clear h hb
 obtain⟨b0,b1,b4⟩:=cells5 HX.out
 have bl:=jl HX.out
 go_enter Tryz.func93,Tryz.ntmps93
 go_wp2_with fail
 clear b0 b1 b4 bl
 generalize w.alloc (.cells #[.int .i64 5,.int .i64 A,.int .i64 B,.int .u64 K,lab] 33)=u0 at *
 obtain⟨y,hy⟩:∃y,w.heap.size=y:=⟨_,rfl⟩
 rw[hy] at HX HYK HSZ
 simp only[hy]
 clear hy
 refine(turn_ck HCK.out HB0.out).mono ?_
 rintro e w1 ⟨rfl,hc,hbt⟩
 have HX:=jq (hbt.bk HX.out HYK.out)
 have HBT:=jq (HBT.out.trans hbt)
 have HCK:=jq hc
 clear hc hbt
 go_wp2_with fail
 exact bodyPost_end (v:=.tuple #[]) (by simp[results,Tryz.results93,go_sem]) rfl ⟨rfl,HCK.out,HBT.out⟩
theorem plain_11 {w:World}{k:Nat}{V:EV}{E:EnvP}{s:Stk}{A B K:Int}{lab:Value}(h:Cx w k V E (.ok s))(hb:Bd (.ok s) 300000)(hf:FnBd E):Calls Tryz.prog 93 #[.pointer (some ⟨k,0,none⟩),.agg #[.int .i64 11,.int .i64 A,.int .i64 B,.int .u64 K,lab]] w (CkEnds w k V E (plainR E 11 s) (.tuple #[])):=by
 have HFB:=jq hf
 clear hf
 have HCK:=jq h
 have HB0:=jq hb
 have HBT:Hid (But k w (w.alloc (.cells #[.int .i64 11,.int .i64 A,.int .i64 B,.int .u64 K,lab] 33))):=But.of_below (zaB w (.cells #[.int .i64 11,.int .i64 A,.int .i64 B,.int .u64 K,lab] 33))
 have HCK:=jq (h.keep (zaB w (.cells #[.int .i64 11,.int .i64 A,.int .i64 B,.int .u64 K,lab] 33)))
 have HX:=jq (zaC w (.cells #[.int .i64 11,.int .i64 A,.int .i64 B,.int .u64 K,lab] 33))
 have HSZ:Hid ((w.alloc (.cells #[.int .i64 11,.int .i64 A,.int .i64 B,.int .u64 K,lab] 33)).heap.size=w.heap.size+1):=zaD _ _
 have HYK:Hid (w.heap.size≠k):=jq (by have:=h.lt;omega)
 clear h hb
 obtain⟨b0,b1,b4⟩:=cells5 HX.out
 have bl:=jl HX.out
 go_enter Tryz.func93,Tryz.ntmps93
 go_wp2_with fail
 clear b0 b1 b4 bl
 generalize w.alloc (.cells #[.int .i64 11,.int .i64 A,.int .i64 B,.int .u64 K,lab] 33)=u0 at *
 obtain⟨y,hy⟩:∃y,w.heap.size=y:=⟨_,rfl⟩
 rw[hy] at HX HYK HSZ
 simp only[hy]
 clear hy
 refine(end_ck HCK.out HB0.out).mono ?_
 rintro e w1 ⟨rfl,hc,hbt⟩
 have HX:=jq (hbt.bk HX.out HYK.out)
 have HBT:=jq (HBT.out.trans hbt)
 have HCK:=jq hc
 clear hc hbt
 go_wp2_with fail
 exact bodyPost_end (v:=.tuple #[]) (by simp[results,Tryz.results93,go_sem]) rfl ⟨rfl,HCK.out,HBT.out⟩
theorem plain_27 {w:World}{k:Nat}{V:EV}{E:EnvP}{s:Stk}{A B K:Int}{lab:Value}(h:Cx w k V E (.ok s))(hb:Bd (.ok s) 300000)(hf:FnBd E):Calls Tryz.prog 93 #[.pointer (some ⟨k,0,none⟩),.agg #[.int .i64 27,.int .i64 A,.int .i64 B,.int .u64 K,lab]] w (CkEnds w k V E (plainR E 27 s) (.tuple #[])):=by
 have HFB:=jq hf
 clear hf
 have HCK:=jq h
 have HB0:=jq hb
 have HBT:Hid (But k w (w.alloc (.cells #[.int .i64 27,.int .i64 A,.int .i64 B,.int .u64 K,lab] 33))):=But.of_below (zaB w (.cells #[.int .i64 27,.int .i64 A,.int .i64 B,.int .u64 K,lab] 33))
 have HCK:=jq (h.keep (zaB w (.cells #[.int .i64 27,.int .i64 A,.int .i64 B,.int .u64 K,lab] 33)))
 have HX:=jq (zaC w (.cells #[.int .i64 27,.int .i64 A,.int .i64 B,.int .u64 K,lab] 33))
 have HSZ:Hid ((w.alloc (.cells #[.int .i64 27,.int .i64 A,.int .i64 B,.int .u64 K,lab] 33)).heap.size=w.heap.size+1):=zaD _ _
 have HYK:Hid (w.heap.size≠k):=jq (by have:=h.lt;omega)
 clear h hb
 obtain⟨b0,b1,b4⟩:=cells5 HX.out
 have bl:=jl HX.out
 go_enter Tryz.func93,Tryz.ntmps93
 go_wp2_with fail
 clear b0 b1 b4 bl
 generalize w.alloc (.cells #[.int .i64 27,.int .i64 A,.int .i64 B,.int .u64 K,lab] 33)=u0 at *
 obtain⟨y,hy⟩:∃y,w.heap.size=y:=⟨_,rfl⟩
 rw[hy] at HX HYK HSZ
 simp only[hy]
 clear hy
 refine(choose_ck HCK.out HB0.out).mono ?_
 rintro e w1 ⟨rfl,hc,hbt⟩
 have HX:=jq (hbt.bk HX.out HYK.out)
 have HBT:=jq (HBT.out.trans hbt)
 have HCK:=jq hc
 clear hc hbt
 go_wp2_with fail
 exact bodyPost_end (v:=.tuple #[]) (by simp[results,Tryz.results93,go_sem]) rfl ⟨rfl,HCK.out,HBT.out⟩
theorem plain_26 {w:World}{k:Nat}{V:EV}{E:EnvP}{s:Stk}{A B K:Int}{lab:Value}(h:Cx w k V E (.ok s))(hb:Bd (.ok s) 300000)(hf:FnBd E):Calls Tryz.prog 93 #[.pointer (some ⟨k,0,none⟩),.agg #[.int .i64 26,.int .i64 A,.int .i64 B,.int .u64 K,lab]] w (CkEnds w k V E (plainR E 26 s) (.tuple #[])):=by
 have HFB:=jq hf
 clear hf
 have HCK:=jq h
 have HB0:=jq hb
 have HBT:Hid (But k w (w.alloc (.cells #[.int .i64 26,.int .i64 A,.int .i64 B,.int .u64 K,lab] 33))):=But.of_below (zaB w (.cells #[.int .i64 26,.int .i64 A,.int .i64 B,.int .u64 K,lab] 33))
 have HCK:=jq (h.keep (zaB w (.cells #[.int .i64 26,.int .i64 A,.int .i64 B,.int .u64 K,lab] 33)))
 have HX:=jq (zaC w (.cells #[.int .i64 26,.int .i64 A,.int .i64 B,.int .u64 K,lab] 33))
 have HSZ:Hid ((w.alloc (.cells #[.int .i64 26,.int .i64 A,.int .i64 B,.int .u64 K,lab] 33)).heap.size=w.heap.size+1):=zaD _ _
 have HYK:Hid (w.heap.size≠k):=jq (by have:=h.lt;omega)
 clear h hb
 obtain⟨b0,b1,b4⟩:=cells5 HX.out
 have bl:=jl HX.out
 go_enter Tryz.func93,Tryz.ntmps93
 go_wp2_with fail
 clear b0 b1 b4 bl
 generalize w.alloc (.cells #[.int .i64 26,.int .i64 A,.int .i64 B,.int .u64 K,lab] 33)=u0 at *
 obtain⟨y,hy⟩:∃y,w.heap.size=y:=⟨_,rfl⟩
 rw[hy] at HX HYK HSZ
 simp only[hy]
 clear hy
 refine(pop_ck HCK.out (HB0.out.mono (by omega))).mono ?_
 rintro e w1 ⟨rfl,hc,hbt⟩
 have HX:=jq (hbt.bk HX.out HYK.out)
 have HBT:=jq (HBT.out.trans hbt)
 have HCK:=jq hc
 clear hc hbt
 go_wp2_with fail
 exact bodyPost_end (v:=.tuple #[]) (by simp[results,Tryz.results93,go_sem]) rfl ⟨rfl,HCK.out,HBT.out⟩
theorem plain_15 {w:World}{k:Nat}{V:EV}{E:EnvP}{s:Stk}{A B K:Int}{lab:Value}(h:Cx w k V E (.ok s))(hb:Bd (.ok s) 300000)(hf:FnBd E):Calls Tryz.prog 93 #[.pointer (some ⟨k,0,none⟩),.agg #[.int .i64 15,.int .i64 A,.int .i64 B,.int .u64 K,lab]] w (CkEnds w k V E (plainR E 15 s) (.tuple #[])):=by
 have HFB:=jq hf
 clear hf
 have HCK:=jq h
 have HB0:=jq hb
 have HBT:Hid (But k w (w.alloc (.cells #[.int .i64 15,.int .i64 A,.int .i64 B,.int .u64 K,lab] 33))):=But.of_below (zaB w (.cells #[.int .i64 15,.int .i64 A,.int .i64 B,.int .u64 K,lab] 33))
 have HCK:=jq (h.keep (zaB w (.cells #[.int .i64 15,.int .i64 A,.int .i64 B,.int .u64 K,lab] 33)))
 have HX:=jq (zaC w (.cells #[.int .i64 15,.int .i64 A,.int .i64 B,.int .u64 K,lab] 33))
 have HSZ:Hid ((w.alloc (.cells #[.int .i64 15,.int .i64 A,.int .i64 B,.int .u64 K,lab] 33)).heap.size=w.heap.size+1):=zaD _ _
 have HYK:Hid (w.heap.size≠k):=jq (by have:=h.lt;omega)
 clear h hb
 obtain⟨b0,b1,b4⟩:=cells5 HX.out
 have bl:=jl HX.out
 obtain⟨_,_,_,_,_,_,_,hkh⟩:=HCK.out.heap
 obtain⟨e0,e1,e2,e3,e4,e5,e6⟩:=ckcells hkh
 have ekl:=jl hkh
 go_enter Tryz.func93,Tryz.ntmps93
 go_wp2_with fail
 clear b0 b1 b4 bl hkh e0 e1 e2 e3 e4 e5 e6 ekl
 generalize w.alloc (.cells #[.int .i64 15,.int .i64 A,.int .i64 B,.int .u64 K,lab] 33)=u0 at *
 obtain⟨y,hy⟩:∃y,w.heap.size=y:=⟨_,rfl⟩
 rw[hy] at HX HYK HSZ
 simp only[hy]
 clear hy
 refine(want_ck HCK.out (HB0.out.mono (by omega)) HCK.out.env.r (Nat.le_trans HFB.out.2 (by omega))).mono ?_
 rintro e w1 ⟨rfl,hc,hbt⟩
 have HX:=jq (hbt.bk HX.out HYK.out)
 have HBT:=jq (HBT.out.trans hbt)
 have HCK:=jq hc
 clear hc hbt
 go_wp2_with fail
 refine(kill_ck HCK.out (HB0.out.want.mono (by omega))).mono ?_
 rintro e w2 ⟨rfl,hc,hbt⟩
 have HX:=jq (hbt.bk HX.out HYK.out)
 have HBT:=jq (HBT.out.trans hbt)
 have HCK:=jq hc
 clear hc hbt
 go_wp2_with fail
 exact bodyPost_end (v:=.tuple #[]) (by simp[results,Tryz.results93,go_sem]) rfl ⟨rfl,HCK.out,HBT.out⟩
theorem sh_len (op:Int):(shT op).1.length<=400000:=by
 unfold shT
 repeat (first | (exact of_decide_eq_true rfl) | split)
theorem sh_rng (op:Int):0<=(shT op).2/\(shT op).2<256:=by
 unfold shT
 repeat (first | (exact⟨of_decide_eq_true rfl,of_decide_eq_true rfl⟩) | split)
theorem plain_op {w:World}{k:Nat}{V:EV}{E:EnvP}{s:Stk}{op A B K:Int}{lab:Value}(h:Cx w k V E (.ok s))(hb:Bd (.ok s) 300000)(ho:(69<=op/\op<=90)\/(103<=op/\op<=138)\/op=167\/op=172\/op=173):Calls Tryz.prog 93 #[.pointer (some ⟨k,0,none⟩),.agg #[.int .i64 op,.int .i64 A,.int .i64 B,.int .u64 K,lab]] w (CkEnds w k V E (plainR E op s) (.tuple #[])):=by
 have HSH:=jq (shape_both op ho).1
 have HLT:=jq (sh_len op)
 have HRG:=jq (sh_rng op)
 have n0:(op == 0)=false:=by simpa using (show op≠0 by omega)
 have n1:(op == 1)=false:=by simpa using (show op≠1 by omega)
 have n5:(op == 5)=false:=by simpa using (show op≠5 by omega)
 have n11:(op == 11)=false:=by simpa using (show op≠11 by omega)
 have n15:(op == 15)=false:=by simpa using (show op≠15 by omega)
 have n26:(op == 26)=false:=by simpa using (show op≠26 by omega)
 have n27:(op == 27)=false:=by simpa using (show op≠27 by omega)
 have HD:Hid (plainR E op s=pushR [(shT op).2] (wantR (shT op).1 (.ok s))):=by show _=_;unfold plainR;rw[if_neg (by omega),if_neg (by omega),if_neg (by omega),if_neg (by omega),if_neg (by omega),if_neg (by omega),if_neg (by omega)]
 clear ho
 have HCK:=jq h
 have HB0:=jq hb
 have HBT:Hid (But k w (w.alloc (oJ op A B K lab))):=But.of_below (zaB w (oJ op A B K lab))
 have HCK:=jq (h.keep (zaB w (oJ op A B K lab)))
 have HX:=jq (zaC w (oJ op A B K lab))
 have HSZ:Hid ((w.alloc (oJ op A B K lab)).heap.size=w.heap.size+1):=zaD _ _
 have HYK:Hid (w.heap.size≠k):=jq (by have:=h.lt;omega)
 clear h hb
 obtain⟨b0,b1,b4⟩:=cells5 HX.out
 have bl:=jl HX.out
 go_enter Tryz.func93,Tryz.ntmps93
 go_wp2_with fail
 clear b0 b1 b4 bl
 generalize w.alloc (oJ op A B K lab)=u0 at *
 obtain⟨y,hy⟩:∃y,w.heap.size=y:=⟨_,rfl⟩
 rw[hy] at HX HYK HSZ
 simp only[hy]
 clear hy
 have HS1:=jq (HSH.out u0)
 refine(HS1.out).mono ?_
 rintro e w1 ⟨⟨P1,n1,c1,rfl,hr⟩,hb⟩
 have HX:=jq (blk HX.out hb)
 have HBT:=jq (HBT.out.trans (But.of_below hb))
 have HCK:=jq (HCK.out.keep hb)
 have HT1:=jq hr
 clear hb hr
 go_wp2_with fail
 refine(want_ck HCK.out (HB0.out.mono (by omega)) HT1.out HLT.out).mono ?_
 rintro e w2 ⟨rfl,hc,hbt⟩
 have HT1:=jq (zaG HT1.out HCK.out.nobb hbt)
 have HX:=jq (hbt.bk HX.out HYK.out)
 have HBT:=jq (HBT.out.trans hbt)
 have HCK:=jq hc
 clear hc hbt
 go_wp2_with fail
 have HT:=jq (zaB w2 (.cells #[.int .u8 (shT op).2] 5))
 have HT1:=jq (HT1.out.keep HT.out)
 have HX:=jq (blk HX.out HT.out)
 have HBT:=jq (HBT.out.trans (But.of_below HT.out))
 have HCK:=jq (HCK.out.keep HT.out)
 have HL:=jq (zaL w2 (shT op).2 HRG.out)
 generalize w2.alloc (.cells #[.int .u8 (shT op).2] 5)=u3 at *
 clear HT
 refine(push_ck HCK.out (HB0.out.want.mono (by omega)) HL.out (by simp)).mono ?_
 rintro e w4 ⟨rfl,hc,hbt⟩
 have HT1:=jq (zaG HT1.out HCK.out.nobb hbt)
 have HL:=jq (zaG HL.out HCK.out.nobb hbt)
 have HX:=jq (hbt.bk HX.out HYK.out)
 have HBT:=jq (HBT.out.trans hbt)
 have HCK:=jq hc
 clear hc hbt
 go_wp2_with fail
 exact bodyPost_end (v:=.tuple #[]) (by simp[results,Tryz.results93,go_sem]) rfl ⟨rfl,by rw[HD.out];exact HCK.out,HBT.out⟩
theorem plain_ck {w:World}{k:Nat}{V:EV}{E:EnvP}{s:Stk}{op A B K:Int}{lab:Value}(h:Cx w k V E (.ok s))(hb:Bd (.ok s) 300000)(hf:FnBd E)(hk:Ins.kd op=1):Calls Tryz.prog 93 #[.pointer (some ⟨k,0,none⟩),.agg #[.int .i64 op,.int .i64 A,.int .i64 B,.int .u64 K,lab]] w (CkEnds w k V E (plainR E op s) (.tuple #[])):=by
 by_cases h0:op=0
 ·subst h0;exact plain_0 h hb hf
 by_cases h1:op=1
 ·subst h1;exact plain_1 h hb hf
 by_cases h5:op=5
 ·subst h5;exact plain_5 h hb hf
 by_cases h11:op=11
 ·subst h11;exact plain_11 h hb hf
 by_cases h15:op=15
 ·subst h15;exact plain_15 h hb hf
 by_cases h26:op=26
 ·subst h26;exact plain_26 h hb hf
 by_cases h27:op=27
 ·subst h27;exact plain_27 h hb hf
 refine plain_op h hb ?_
 unfold Ins.kd at hk
 split at hk
 ·exact absurd hk (by decide)
 ·repeat (first | omega | (split at hk))
theorem index_16 {w:World}{k:Nat}{V:EV}{E:EnvP}{s:Stk}{A B K:Int}{lab:Value}(h:Cx w k V E (.ok s))(hb:Bd (.ok s) 300000)(hf:FnBd E)(hA:w64 A):Calls Tryz.prog 95 #[.pointer (some ⟨k,0,none⟩),.agg #[.int .i64 16,.int .i64 A,.int .i64 B,.int .u64 K,lab]] w (CkEnds w k V E (indexR E 16 A s) (.tuple #[])):=by
 have HA:=jq hA
 have HFB:=jq hf
 clear hf hA
 show Calls _ _ _ _ (CkEnds w k V E (callR ((typeE E A).getD ([],[])) (needR (typeE E A).isSome 6 (.ok s))) (.tuple #[]))
 have HCK:=jq h
 have HB0:=jq hb
 have HBT:Hid (But k w (w.alloc (.cells #[.int .i64 16,.int .i64 A,.int .i64 B,.int .u64 K,lab] 33))):=But.of_below (zaB w (.cells #[.int .i64 16,.int .i64 A,.int .i64 B,.int .u64 K,lab] 33))
 have HCK:=jq (h.keep (zaB w (.cells #[.int .i64 16,.int .i64 A,.int .i64 B,.int .u64 K,lab] 33)))
 have HX:=jq (zaC w (.cells #[.int .i64 16,.int .i64 A,.int .i64 B,.int .u64 K,lab] 33))
 have HSZ:Hid ((w.alloc (.cells #[.int .i64 16,.int .i64 A,.int .i64 B,.int .u64 K,lab] 33)).heap.size=w.heap.size+1):=zaD _ _
 have HYK:Hid (w.heap.size≠k):=jq (by have:=h.lt;omega)
 clear h hb
 obtain⟨b0,b1,b4⟩:=cells5 HX.out
 have bl:=jl HX.out
 go_enter Tryz.func95,Tryz.ntmps95
 go_wp2_with fail
 clear b0 b1 b4 bl
 generalize w.alloc (.cells #[.int .i64 16,.int .i64 A,.int .i64 B,.int .u64 K,lab] 33)=u0 at *
 obtain⟨y,hy⟩:∃y,w.heap.size=y:=⟨_,rfl⟩
 rw[hy] at HX HYK HSZ
 simp only[hy]
 clear hy
 have HDw:=jq (zaI u0)
 have HTY:=jq (Type_any (f:=A) (HCK.out.env.keep HDw.out) HFB.out)
 have HTB:=jq (type_bd (n:=A) HFB.out)
 have hev:evV V E= .agg #[.slice V.Pt V.nt V.ct,.slice V.Pf V.nf V.cf,.int .i64 E.tables,.int .i64 E.mems,.slice V.Pg V.ng V.cg,.slice V.Pl V.nl V.cl,.slice V.Pr V.nr V.cr]:=rfl
 rw[hev] at HTY
 clear hev
 have HZW:=jq ((zaB u0 (.cells #[.slice none 0 0,.slice none 0 0] 51)).drew)
 have HZ0:=jq (show ((u0.alloc (.cells #[.slice none 0 0,.slice none 0 0] 51)).drew).heap[u0.heap.size]? = _ from zaC u0 (.cells #[.slice none 0 0,.slice none 0 0] 51))
 have HTZ:=jq (Type_any (f:=A) (HCK.out.env.keep HZW.out) HFB.out)
 rw[show evV V E= .agg #[.slice V.Pt V.nt V.ct,.slice V.Pf V.nf V.cf,.int .i64 E.tables,.int .i64 E.mems,.slice V.Pg V.ng V.cg,.slice V.Pl V.nl V.cl,.slice V.Pr V.nr V.cr] from rfl] at HTZ
 generalize (typeE E A).isSome=ok at *
 generalize (typeE E A).getD ([],[])=f at *
 obtain⟨b0,b1,b4⟩:=cells5 HX.out
 have bl:=jl HX.out
 obtain⟨_,_,_,_,_,_,_,hkh⟩:=HCK.out.heap
 obtain⟨e0,e1,e2,e3,e4,e5,e6⟩:=ckcells hkh
 have ekl:=jl hkh
 go_region_law (first
  | (go_simp;go_at_call 16;(with_reducible refine Calls.mono HTY.out ?_);rintro e w1 ⟨⟨P1,n1,c1,Q1,m1,d1,rfl,hr1,hr2⟩,hb⟩;have HBA:=jq (HDw.out.trans hb);have HR1:=jq hr1;have HR2:=jq hr2;obtain ⟨b0,b1,b4⟩:=cells5 (blk HX.out HBA.out);have bl:=jl (blk HX.out HBA.out);clear hb hr1 hr2)
  | (go_simp;go_at_call 16;(with_reducible refine Calls.mono HTZ.out ?_);rintro e w1 ⟨⟨P1,n1,c1,Q1,m1,d1,rfl,hr1,hr2⟩,hb⟩;have HBB:=jq (HZW.out.trans (hb.mono HZW.out.size));have HZ1:=jq (blk HZ0.out hb);obtain ⟨z0,z1⟩:=zaH HZ1.out;have zp0:=(zaA HZ1.out 0).2;have zp1:=(zaA HZ1.out 1).2;have zl:=jl HZ1.out;have HR1:=jq hr1;have HR2:=jq hr2;obtain ⟨b0,b1,b4⟩:=cells5 (blk HX.out HBB.out);have bl:=jl (blk HX.out HBB.out);clear hb hr1 hr2))
 all_goals (first
 | (
  have HBA':=jq HBA.out
  have HT:=jq (HBA.out.trans ((zaB w1 (.cells #[.slice P1 n1 c1,.slice Q1 m1 d1] 51)).mono HBA.out.size))
  have HR1:=jq (HR1.out.keep (zaB w1 (.cells #[.slice P1 n1 c1,.slice Q1 m1 d1] 51)))
  have HR2:=jq (HR2.out.keep (zaB w1 (.cells #[.slice P1 n1 c1,.slice Q1 m1 d1] 51)))
  have HF:=jq (zaC w1 (.cells #[.slice P1 n1 c1,.slice Q1 m1 d1] 51))
  obtain⟨z,hz⟩:∃z,w1.heap.size=z:=⟨_,rfl⟩
  have HZS:Hid (u0.heap.size<=z):=jq (by rw[<- hz];exact HBA.out.size)
  rw[hz] at HF
  simp only[hz]
  clear hz HBA'
  generalize w1.alloc (.cells #[.slice P1 n1 c1,.slice Q1 m1 d1] 51)=w2 at *
  clear b0 b1 b4 bl hkh e0 e1 e2 e3 e4 e5 e6 ekl
  have HFK:Hid (z≠k):=jq (by have:=HCK.out.lt;have:=HZS.out;omega)
  have HX:=jq (blk HX.out HT.out)
  have HBT:=jq (HBT.out.trans (But.of_below HT.out))
  have HCK:=jq (HCK.out.keep HT.out)
  go_wp2_with fail
  refine(need_ck HCK.out (by decide)).mono ?_
  rintro e w3 ⟨rfl,hc,hbt⟩
  have HR1:=jq (zaG HR1.out HCK.out.nobb hbt)
  have HR2:=jq (zaG HR2.out HCK.out.nobb hbt)
  have HF:=jq (hbt.bk HF.out HFK.out)
  have HBT:=jq (HBT.out.trans hbt)
  have HCK:=jq hc
  clear hc hbt
  obtain⟨f0,f1⟩:=zaH HF.out
  go_wp2_with fail
  clear f0 f1
  refine(call_ck HCK.out (HB0.out.need.mono (by omega)) HR1.out HR2.out HTB.out.1 HTB.out.2).mono ?_
  rintro e w4 ⟨rfl,hc,hbt⟩
  have HBT:=jq (HBT.out.trans hbt)
  have HCK:=jq hc
  clear hc hbt
  go_wp2_with fail
  exact bodyPost_end (v:=.tuple #[]) (by simp[results,Tryz.results95,go_sem]) rfl ⟨rfl,HCK.out,HBT.out⟩)
 | (
  have HBB':=jq HBB.out
  obtain⟨z,hz⟩:∃z,u0.heap.size=z:=⟨_,rfl⟩
  have HZS:Hid (u0.heap.size<=z):=jq (Nat.le_of_eq hz)
  rw[hz] at HZ1
  simp only[hz]
  have HT:=jq ((HBB.out.setCell (p:=⟨z,0,none⟩) HZS.out (.slice P1 n1 c1)).setCell (p:=⟨z,1,none⟩) HZS.out (.slice Q1 m1 d1))
  have HR1:=jq (rowB_box (rowB_box HR1.out HZ1.out (i:=0) (u:=.slice P1 n1 c1)) (zaE HZ1.out _) (i:=1) (u:=.slice Q1 m1 d1))
  have HR2:=jq (rowB_box (rowB_box HR2.out HZ1.out (i:=0) (u:=.slice P1 n1 c1)) (zaE HZ1.out _) (i:=1) (u:=.slice Q1 m1 d1))
  have HF:=jq (store2 HZ1.out (.slice P1 n1 c1) (.slice Q1 m1 d1))
  clear z0 z1 zp0 zp1 zl hz HBB'
  generalize (w1.setCell ⟨z,0,none⟩ (.slice P1 n1 c1)).setCell ⟨z,1,none⟩ (.slice Q1 m1 d1)=w2 at *
  clear b0 b1 b4 bl hkh e0 e1 e2 e3 e4 e5 e6 ekl
  have HFK:Hid (z≠k):=jq (by have:=HCK.out.lt;have:=HZS.out;omega)
  have HX:=jq (blk HX.out HT.out)
  have HBT:=jq (HBT.out.trans (But.of_below HT.out))
  have HCK:=jq (HCK.out.keep HT.out)
  go_wp2_with fail
  refine(need_ck HCK.out (by decide)).mono ?_
  rintro e w3 ⟨rfl,hc,hbt⟩
  have HR1:=jq (zaG HR1.out HCK.out.nobb hbt)
  have HR2:=jq (zaG HR2.out HCK.out.nobb hbt)
  have HF:=jq (hbt.bk HF.out HFK.out)
  have HBT:=jq (HBT.out.trans hbt)
  have HCK:=jq hc
  clear hc hbt
  obtain⟨f0,f1⟩:=zaH HF.out
  go_wp2_with fail
  clear f0 f1
  refine(call_ck HCK.out (HB0.out.need.mono (by omega)) HR1.out HR2.out HTB.out.1 HTB.out.2).mono ?_
  rintro e w4 ⟨rfl,hc,hbt⟩
  have HBT:=jq (HBT.out.trans hbt)
  have HCK:=jq hc
  clear hc hbt
  go_wp2_with fail
  exact bodyPost_end (v:=.tuple #[]) (by simp[results,Tryz.results95,go_sem]) rfl ⟨rfl,HCK.out,HBT.out⟩))
end Go.Proofs.YtlappkflnlbfcaaGreatDoor.Chk
