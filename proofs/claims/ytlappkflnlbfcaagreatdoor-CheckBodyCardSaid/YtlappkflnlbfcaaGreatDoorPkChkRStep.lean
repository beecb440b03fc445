import Derived.Test.YtlappkflnlbfcaaGreatDoorPkChkWk7
namespace Go.Proofs.YtlappkflnlbfcaaGreatDoor.Chk
open Lib renaming hid → jq
open Go.RowKit Row9 Stk
set_option maxRecDepth 100000
set_option maxHeartbeats 2000000
set_option linter.unusedVariables false
theorem nested_2 {w:World}{k:Nat}{z:Nat}{B K:Int}{lab:Value}{s:Stk}(h:Cw w k (.ok s) z)(hz:z<=300000):Calls Tryz.prog 33 #[.pointer (some ⟨k,0,none⟩),.agg #[.int .i64 2,.int .i64 0,.int .i64 B,.int .u64 K,lab]] w (CwEnds w k (openR 2 [] (.ok s)) (z+1) (.tuple #[])):=by
 obtain⟨Y,hY⟩:∃Y,(openR 2 [] (.ok s))=Y:=⟨_,rfl⟩
 rw[hY]
 have HD:=jq hY
 clear hY
 have HBX:=jq (zaB w (oI 2 0 B K lab))
 have HXI:=jq (zaC w (oI 2 0 B K lab))
 have HYI:Hid (w.heap.size≠k):=jq (by have:=h.lt;omega)
 have HC:=jq (h.keep HBX.out)
 have HBT:Hid (But k w (w.alloc (oI 2 0 B K lab))):=But.of_below HBX.out
 have HZ:=jq hz
 clear h hz
 obtain⟨P,n,c,Q,m,d,s',h1,h2,h3,h4,h5,h6⟩:=HC.out.ck
 obtain⟨c0,c1,c2,p0,p1,p2⟩:=cells3 h1
 have kl:=HC.out.lt
 obtain rfl:=h6 s rfl
 have HST:=jq h2
 clear h1 h2 h3 h4 h5 h6
 obtain⟨b0,b1,b4⟩:=cells5 HXI.out
 have bl:=jl HXI.out
 go_enter Tryz.func33,Tryz.ntmps33
 go_wp2_with fail
 clear b0 b1 b4 bl
 generalize w.alloc (oI 2 0 B K lab)=u0 at *
 obtain⟨q,hq⟩:∃q,w.heap.size=q:=⟨_,rfl⟩
 rw[hq] at HXI HYI
 simp only[hq]
 clear hq HBX
 clear c0 c1 c2 p0 p1 p2 kl HST
 refine(open_wk HC.out (by have:=HZ.out;omega) (by constructor <;> omega) (Row.nil _ _) (by simp)).mono ?_
 rintro e w1 ⟨rfl,hc,hbt⟩
 have HXI:=jq (hbt.bk HXI.out HYI.out)
 have HBT:=jq (HBT.out.trans hbt)
 have HC:=jq hc
 clear hc hbt
 go_wp2_with fail
 exact bodyPost_end (v:=.tuple #[]) (by simp[results,Tryz.results33,go_sem]) rfl ⟨rfl,by rw[<- HD.out];exact HC.out,HBT.out⟩
theorem nested_3 {w:World}{k:Nat}{z:Nat}{B K:Int}{lab:Value}{s:Stk}(h:Cw w k (.ok s) z)(hz:z<=300000):Calls Tryz.prog 33 #[.pointer (some ⟨k,0,none⟩),.agg #[.int .i64 3,.int .i64 0,.int .i64 B,.int .u64 K,lab]] w (CwEnds w k (openR 3 [] (.ok s)) (z+1) (.tuple #[])):=by
 obtain⟨Y,hY⟩:∃Y,(openR 3 [] (.ok s))=Y:=⟨_,rfl⟩
 rw[hY]
 have HD:=jq hY
 clear hY
 have HBX:=jq (zaB w (oI 3 0 B K lab))
 have HXI:=jq (zaC w (oI 3 0 B K lab))
 have HYI:Hid (w.heap.size≠k):=jq (by have:=h.lt;omega)
 have HC:=jq (h.keep HBX.out)
 have HBT:Hid (But k w (w.alloc (oI 3 0 B K lab))):=But.of_below HBX.out
 have HZ:=jq hz
 clear h hz
 obtain⟨P,n,c,Q,m,d,s',h1,h2,h3,h4,h5,h6⟩:=HC.out.ck
 obtain⟨c0,c1,c2,p0,p1,p2⟩:=cells3 h1
 have kl:=HC.out.lt
 obtain rfl:=h6 s rfl
 have HST:=jq h2
 clear h1 h2 h3 h4 h5 h6
 obtain⟨b0,b1,b4⟩:=cells5 HXI.out
 have bl:=jl HXI.out
 go_enter Tryz.func33,Tryz.ntmps33
 go_wp2_with fail
 clear b0 b1 b4 bl
 generalize w.alloc (oI 3 0 B K lab)=u0 at *
 obtain⟨q,hq⟩:∃q,w.heap.size=q:=⟨_,rfl⟩
 rw[hq] at HXI HYI
 simp only[hq]
 clear hq HBX
 clear c0 c1 c2 p0 p1 p2 kl HST
 refine(open_wk HC.out (by have:=HZ.out;omega) (by constructor <;> omega) (Row.nil _ _) (by simp)).mono ?_
 rintro e w1 ⟨rfl,hc,hbt⟩
 have HXI:=jq (hbt.bk HXI.out HYI.out)
 have HBT:=jq (HBT.out.trans hbt)
 have HC:=jq hc
 clear hc hbt
 go_wp2_with fail
 exact bodyPost_end (v:=.tuple #[]) (by simp[results,Tryz.results33,go_sem]) rfl ⟨rfl,by rw[<- HD.out];exact HC.out,HBT.out⟩
theorem nested_4 {w:World}{k:Nat}{z:Nat}{B K:Int}{lab:Value}{s:Stk}(h:Cw w k (.ok s) z)(hz:z<=300000):Calls Tryz.prog 33 #[.pointer (some ⟨k,0,none⟩),.agg #[.int .i64 4,.int .i64 0,.int .i64 B,.int .u64 K,lab]] w (CwEnds w k (openR 4 [] (wantR [127] (.ok s))) (z+1) (.tuple #[])):=by
 obtain⟨Y,hY⟩:∃Y,(openR 4 [] (wantR [127] (.ok s)))=Y:=⟨_,rfl⟩
 rw[hY]
 have HD:=jq hY
 clear hY
 have HBX:=jq (zaB w (oI 4 0 B K lab))
 have HXI:=jq (zaC w (oI 4 0 B K lab))
 have HYI:Hid (w.heap.size≠k):=jq (by have:=h.lt;omega)
 have HC:=jq (h.keep HBX.out)
 have HBT:Hid (But k w (w.alloc (oI 4 0 B K lab))):=But.of_below HBX.out
 have HZ:=jq hz
 clear h hz
 obtain⟨P,n,c,Q,m,d,s',h1,h2,h3,h4,h5,h6⟩:=HC.out.ck
 obtain⟨c0,c1,c2,p0,p1,p2⟩:=cells3 h1
 have kl:=HC.out.lt
 obtain rfl:=h6 s rfl
 have HST:=jq h2
 clear h1 h2 h3 h4 h5 h6
 obtain⟨b0,b1,b4⟩:=cells5 HXI.out
 have bl:=jl HXI.out
 go_enter Tryz.func33,Tryz.ntmps33
 go_wp2_with fail
 clear b0 b1 b4 bl
 generalize w.alloc (oI 4 0 B K lab)=u0 at *
 obtain⟨q,hq⟩:∃q,w.heap.size=q:=⟨_,rfl⟩
 rw[hq] at HXI HYI
 simp only[hq]
 clear hq HBX
 clear c0 c1 c2 p0 p1 p2 kl HST
 refine(i32_wk _).mono ?_
 rintro e w1 ⟨v127,rfl,hr,hb⟩
 have HXI:=jq (blk HXI.out hb)
 have HBT:=jq (HBT.out.trans (But.of_below hb))
 have HC:=jq (HC.out.keep hb)
 have H127:=jq hr
 clear hb hr
 go_wp2_with fail
 refine(want_wk HC.out (by have:=HZ.out;omega) H127.out (by simp)).mono ?_
 rintro e w2 ⟨rfl,hc,hbt⟩
 have HXI:=jq (hbt.bk HXI.out HYI.out)
 have HBT:=jq (HBT.out.trans hbt)
 have HC:=jq hc
 clear hc hbt
 go_wp2_with fail
 refine(open_wk HC.out (by have:=HZ.out;omega) (by constructor <;> omega) (Row.nil _ _) (by simp)).mono ?_
 rintro e w3 ⟨rfl,hc,hbt⟩
 have HXI:=jq (hbt.bk HXI.out HYI.out)
 have HBT:=jq (HBT.out.trans hbt)
 have HC:=jq hc
 clear hc hbt
 go_wp2_with fail
 exact bodyPost_end (v:=.tuple #[]) (by simp[results,Tryz.results33,go_sem]) rfl ⟨rfl,by rw[<- HD.out];exact HC.out,HBT.out⟩
theorem nested_2v {w:World}{k:Nat}{z:Nat}{A B K:Int}{lab:Value}{s:Stk}(h:Cw w k (.ok s) z)(hz:z<=300000)(hA:0<A/\A<256):Calls Tryz.prog 33 #[.pointer (some ⟨k,0,none⟩),.agg #[.int .i64 2,.int .i64 A,.int .i64 B,.int .u64 K,lab]] w (CwEnds w k (openR 2 [A] (.ok s)) (z+1) (.tuple #[])):=by
 obtain⟨Y,hY⟩:∃Y,(openR 2 [A] (.ok s))=Y:=⟨_,rfl⟩
 rw[hY]
 have HD:=jq hY
 clear hY
 have HA:=jq hA
 have HBX:=jq (zaB w (oI 2 A B K lab))
 have HXI:=jq (zaC w (oI 2 A B K lab))
 have HYI:Hid (w.heap.size≠k):=jq (by have:=h.lt;omega)
 have HC:=jq (h.keep HBX.out)
 have HBT:Hid (But k w (w.alloc (oI 2 A B K lab))):=But.of_below HBX.out
 have HZ:=jq hz
 clear h hz hA
 obtain⟨P,n,c,Q,m,d,s',h1,h2,h3,h4,h5,h6⟩:=HC.out.ck
 obtain⟨c0,c1,c2,p0,p1,p2⟩:=cells3 h1
 have kl:=HC.out.lt
 obtain rfl:=h6 s rfl
 have HST:=jq h2
 clear h1 h2 h3 h4 h5 h6
 obtain⟨b0,b1,b4⟩:=cells5 HXI.out
 have bl:=jl HXI.out
 have t1:(A == 0)=false:=by simpa using (show A≠0 by have:=HA.out;omega)
 have hcv:IntKind.u8.wrap A=A:=IntWalk.u8_in _ (by have:=HA.out;omega)
 go_enter Tryz.func33,Tryz.ntmps33
 go_wp2_with (at_builtin;refine stop_ ?_)
 refine jq ?_
 clear c0 c1 c2 p0 p1 p2 kl HST b0 b1 b4 bl
 have HNA:=jq (zaB (w.alloc (oI 2 A B K lab)) (.cells #[.int .u8 A] 5))
 have hat:=newG' elB (w.alloc (oI 2 A B K lab)) A #[.int .u8 A] 5 rfl rfl
 rw[zaD] at hat
 refine wp_oneG elB 25 Tryz.underlying25 _ rfl (.tmp 17) (.tmp 21) rfl ((w.alloc (oI 2 A B K lab)).alloc (.cells #[.int .u8 A] 5)).heap.size (.slice none 0 0) [] A (by have:=HA.out;constructor <;> omega) rfl (own_nil _ _ _) (w.heap.size+1) (by rfl) hat (by simp) (by decide) (Nat.le_refl _) ?_
 intro v1 w1 ho1 hb1 _
 obtain⟨P1,c1,hv⟩:=ho1.form
 simp only[List.nil_append,List.length_singleton] at hv
 subst hv
 have HLR:Hid (Row elB w1 (.slice P1 1 c1) [A]):=jq (Own.row ho1 (fun p hp=>by simp only[List.mem_singleton] at hp;subst hp;have:=HA.out;constructor <;> omega))
 have HXI:=jq (blk HXI.out HNA.out)
 have HBT:=jq (HBT.out.trans (But.of_below HNA.out))
 have HC:=jq (HC.out.keep HNA.out)
 have HXI:=jq (blk HXI.out hb1)
 have HBT:=jq (HBT.out.trans (But.of_below hb1))
 have HC:=jq (HC.out.keep hb1)
 clear HNA ho1 hb1 HBX
 obtain⟨q,hq⟩:∃q,w.heap.size=q:=⟨_,rfl⟩
 rw[hq] at HXI HYI
 simp only[hq]
 clear hq
 obtain⟨b0,b1,b4⟩:=cells5 HXI.out
 have bl:=jl HXI.out
 go_wp2_with fail
 clear b0 b1 b4 bl
 refine(open_wk HC.out (by have:=HZ.out;omega) (by constructor <;> omega) HLR.out (by simp)).mono ?_
 rintro e w2 ⟨rfl,hc,hbt⟩
 have HXI:=jq (hbt.bk HXI.out HYI.out)
 have HBT:=jq (HBT.out.trans hbt)
 have HC:=jq hc
 clear hc hbt
 go_wp2_with fail
 exact bodyPost_end (v:=.tuple #[]) (by simp[results,Tryz.results33,go_sem]) rfl ⟨rfl,by rw[<- HD.out];exact HC.out,HBT.out⟩
theorem nested_3v {w:World}{k:Nat}{z:Nat}{A B K:Int}{lab:Value}{s:Stk}(h:Cw w k (.ok s) z)(hz:z<=300000)(hA:0<A/\A<256):Calls Tryz.prog 33 #[.pointer (some ⟨k,0,none⟩),.agg #[.int .i64 3,.int .i64 A,.int .i64 B,.int .u64 K,lab]] w (CwEnds w k (openR 3 [A] (.ok s)) (z+1) (.tuple #[])):=by
 obtain⟨Y,hY⟩:∃Y,(openR 3 [A] (.ok s))=Y:=⟨_,rfl⟩
 rw[hY]
 have HD:=jq hY
 clear hY
 have HA:=jq hA
 have HBX:=jq (zaB w (oI 3 A B K lab))
 have HXI:=jq (zaC w (oI 3 A B K lab))
 have HYI:Hid (w.heap.size≠k):=jq (by have:=h.lt;omega)
 have HC:=jq (h.keep HBX.out)
 have HBT:Hid (But k w (w.alloc (oI 3 A B K lab))):=But.of_below HBX.out
 have HZ:=jq hz
 clear h hz hA
 obtain⟨P,n,c,Q,m,d,s',h1,h2,h3,h4,h5,h6⟩:=HC.out.ck
 obtain⟨c0,c1,c2,p0,p1,p2⟩:=cells3 h1
 have kl:=HC.out.lt
 obtain rfl:=h6 s rfl
 have HST:=jq h2
 clear h1 h2 h3 h4 h5 h6
 obtain⟨b0,b1,b4⟩:=cells5 HXI.out
 have bl:=jl HXI.out
 have t1:(A == 0)=false:=by simpa using (show A≠0 by have:=HA.out;omega)
 have hcv:IntKind.u8.wrap A=A:=IntWalk.u8_in _ (by have:=HA.out;omega)
 go_enter Tryz.func33,Tryz.ntmps33
 go_wp2_with (at_builtin;refine stop_ ?_)
 refine jq ?_
 clear c0 c1 c2 p0 p1 p2 kl HST b0 b1 b4 bl
 have HNA:=jq (zaB (w.alloc (oI 3 A B K lab)) (.cells #[.int .u8 A] 5))
 have hat:=newG' elB (w.alloc (oI 3 A B K lab)) A #[.int .u8 A] 5 rfl rfl
 rw[zaD] at hat
 refine wp_oneG elB 25 Tryz.underlying25 _ rfl (.tmp 17) (.tmp 21) rfl ((w.alloc (oI 3 A B K lab)).alloc (.cells #[.int .u8 A] 5)).heap.size (.slice none 0 0) [] A (by have:=HA.out;constructor <;> omega) rfl (own_nil _ _ _) (w.heap.size+1) (by rfl) hat (by simp) (by decide) (Nat.le_refl _) ?_
 intro v1 w1 ho1 hb1 _
 obtain⟨P1,c1,hv⟩:=ho1.form
 simp only[List.nil_append,List.length_singleton] at hv
 subst hv
 have HLR:Hid (Row elB w1 (.slice P1 1 c1) [A]):=jq (Own.row ho1 (fun p hp=>by simp only[List.mem_singleton] at hp;subst hp;have:=HA.out;constructor <;> omega))
 have HXI:=jq (blk HXI.out HNA.out)
 have HBT:=jq (HBT.out.trans (But.of_below HNA.out))
 have HC:=jq (HC.out.keep HNA.out)
 have HXI:=jq (blk HXI.out hb1)
 have HBT:=jq (HBT.out.trans (But.of_below hb1))
 have HC:=jq (HC.out.keep hb1)
 clear HNA ho1 hb1 HBX
 obtain⟨q,hq⟩:∃q,w.heap.size=q:=⟨_,rfl⟩
 rw[hq] at HXI HYI
 simp only[hq]
 clear hq
 obtain⟨b0,b1,b4⟩:=cells5 HXI.out
 have bl:=jl HXI.out
 go_wp2_with fail
 clear b0 b1 b4 bl
 refine(open_wk HC.out (by have:=HZ.out;omega) (by constructor <;> omega) HLR.out (by simp)).mono ?_
 rintro e w2 ⟨rfl,hc,hbt⟩
 have HXI:=jq (hbt.bk HXI.out HYI.out)
 have HBT:=jq (HBT.out.trans hbt)
 have HC:=jq hc
 clear hc hbt
 go_wp2_with fail
 exact bodyPost_end (v:=.tuple #[]) (by simp[results,Tryz.results33,go_sem]) rfl ⟨rfl,by rw[<- HD.out];exact HC.out,HBT.out⟩
theorem nested_4v {w:World}{k:Nat}{z:Nat}{A B K:Int}{lab:Value}{s:Stk}(h:Cw w k (.ok s) z)(hz:z<=300000)(hA:0<A/\A<256):Calls Tryz.prog 33 #[.pointer (some ⟨k,0,none⟩),.agg #[.int .i64 4,.int .i64 A,.int .i64 B,.int .u64 K,lab]] w (CwEnds w k (openR 4 [A] (wantR [127] (.ok s))) (z+1) (.tuple #[])):=by
 obtain⟨Y,hY⟩:∃Y,(openR 4 [A] (wantR [127] (.ok s)))=Y:=⟨_,rfl⟩
 rw[hY]
 have HD:=jq hY
 clear hY
 have HA:=jq hA
 have HBX:=jq (zaB w (oI 4 A B K lab))
 have HXI:=jq (zaC w (oI 4 A B K lab))
 have HYI:Hid (w.heap.size≠k):=jq (by have:=h.lt;omega)
 have HC:=jq (h.keep HBX.out)
 have HBT:Hid (But k w (w.alloc (oI 4 A B K lab))):=But.of_below HBX.out
 have HZ:=jq hz
 clear h hz hA
 obtain⟨P,n,c,Q,m,d,s',h1,h2,h3,h4,h5,h6⟩:=HC.out.ck
 obtain⟨c0,c1,c2,p0,p1,p2⟩:=cells3 h1
 have kl:=HC.out.lt
 obtain rfl:=h6 s rfl
 have HST:=jq h2
 clear h1 h2 h3 h4 h5 h6
 obtain⟨b0,b1,b4⟩:=cells5 HXI.out
 have bl:=jl HXI.out
 have t1:(A == 0)=false:=by simpa using (show A≠0 by have:=HA.out;omega)
 have hcv:IntKind.u8.wrap A=A:=IntWalk.u8_in _ (by have:=HA.out;omega)
 go_enter Tryz.func33,Tryz.ntmps33
 go_wp2_with (at_builtin;refine stop_ ?_)
 refine jq ?_
 clear c0 c1 c2 p0 p1 p2 kl HST b0 b1 b4 bl
 have HNA:=jq (zaB (w.alloc (oI 4 A B K lab)) (.cells #[.int .u8 A] 5))
 have hat:=newG' elB (w.alloc (oI 4 A B K lab)) A #[.int .u8 A] 5 rfl rfl
 rw[zaD] at hat
 refine wp_oneG elB 25 Tryz.underlying25 _ rfl (.tmp 17) (.tmp 21) rfl ((w.alloc (oI 4 A B K lab)).alloc (.cells #[.int .u8 A] 5)).heap.size (.slice none 0 0) [] A (by have:=HA.out;constructor <;> omega) rfl (own_nil _ _ _) (w.heap.size+1) (by rfl) hat (by simp) (by decide) (Nat.le_refl _) ?_
 intro v1 w1 ho1 hb1 _
 obtain⟨P1,c1,hv⟩:=ho1.form
 simp only[List.nil_append,List.length_singleton] at hv
 subst hv
 have HLR:Hid (Row elB w1 (.slice P1 1 c1) [A]):=jq (Own.row ho1 (fun p hp=>by simp only[List.mem_singleton] at hp;subst hp;have:=HA.out;constructor <;> omega))
 have HXI:=jq (blk HXI.out HNA.out)
 have HBT:=jq (HBT.out.trans (But.of_below HNA.out))
 have HC:=jq (HC.out.keep HNA.out)
 have HXI:=jq (blk HXI.out hb1)
 have HBT:=jq (HBT.out.trans (But.of_below hb1))
 have HC:=jq (HC.out.keep hb1)
 clear HNA ho1 hb1 HBX
 obtain⟨q,hq⟩:∃q,w.heap.size=q:=⟨_,rfl⟩
 rw[hq] at HXI HYI
 simp only[hq]
 clear hq
 obtain⟨b0,b1,b4⟩:=cells5 HXI.out
 have bl:=jl HXI.out
 go_wp2_with fail
 clear b0 b1 b4 bl
 refine(i32_wk _).mono ?_
 rintro e w2 ⟨v127,rfl,hr,hb⟩
 have HXI:=jq (blk HXI.out hb)
 have HLR:=jq (HLR.out.keep hb)
 have HBT:=jq (HBT.out.trans (But.of_below hb))
 have HC:=jq (HC.out.keep hb)
 have H127:=jq hr
 clear hb hr
 go_wp2_with fail
 refine(want_wk HC.out (by have:=HZ.out;omega) H127.out (by simp)).mono ?_
 rintro e w3 ⟨rfl,hc,hbt⟩
 have HXI:=jq (hbt.bk HXI.out HYI.out)
 have HLR:=jq (zaG HLR.out HC.out.nobb hbt)
 have HBT:=jq (HBT.out.trans hbt)
 have HC:=jq hc
 clear hc hbt
 go_wp2_with fail
 refine(open_wk HC.out (by have:=HZ.out;omega) (by constructor <;> omega) HLR.out (by simp)).mono ?_
 rintro e w4 ⟨rfl,hc,hbt⟩
 have HXI:=jq (hbt.bk HXI.out HYI.out)
 have HBT:=jq (HBT.out.trans hbt)
 have HC:=jq hc
 clear hc hbt
 go_wp2_with fail
 exact bodyPost_end (v:=.tuple #[]) (by simp[results,Tryz.results33,go_sem]) rfl ⟨rfl,by rw[<- HD.out];exact HC.out,HBT.out⟩
theorem open_of {x1:Rs}{op:Int}{l:List Int}(h:∀s,x1= .ok s->op=(closedC x1).op/\l=(closedC x1).fin):openR 5 l (closeR x1)=openR 5 (closedC x1).fin (closeR x1):=by
 cases x1 with
 | er e=>rfl
 | ok s=>rw[(h s rfl).2]
theorem end_of {x1:Rs}{op:Int}{l:List Int}(h:∀s,x1= .ok s->op=(closedC x1).op/\l=(closedC x1).fin):pushR l (needR ((op != 4) || (l.length == 0)) 5 (closeR x1))=pushR (closedC x1).fin (needR (((closedC x1).op != 4) || ((closedC x1).fin.length == 0)) 5 (closeR x1)):=by
 cases x1 with
 | er e=>rfl
 | ok s=>rw[<- (h s rfl).1,<- (h s rfl).2]
theorem cells4c {w:World}{y:Nat}{a b c d:Value}{t:TypeId}(h:w.heap[y]? = some (.cells #[a,b,c,d] t (0,0))):w.cell? ⟨y,0,none⟩=some a/\w.cell? ⟨y,1,none⟩=some b:=
 ⟨(zaA h 0).1,(zaA h 1).1⟩
theorem nested_5 {w:World}{k:Nat}{z:Nat}{B K:Int}{lab:Value}{s:Stk}(h:Cw w k (.ok s) z)(hz:z<=300000):Calls Tryz.prog 33 #[.pointer (some ⟨k,0,none⟩),.agg #[.int .i64 5,.int .i64 0,.int .i64 B,.int .u64 K,lab]] w (CwEnds w k (turnR s) (z+1) (.tuple #[])):=by
 obtain⟨Y,hY⟩:∃Y,(turnR s)=Y:=⟨_,rfl⟩
 rw[hY]
 have HD:=jq hY
 clear hY
 have HBX:=jq (zaB w (oI 5 0 B K lab))
 have HXI:=jq (zaC w (oI 5 0 B K lab))
 have HYI:Hid (w.heap.size≠k):=jq (by have:=h.lt;omega)
 have HC:=jq (h.keep HBX.out)
 have HBT:Hid (But k w (w.alloc (oI 5 0 B K lab))):=But.of_below HBX.out
 have HZ:=jq hz
 clear h hz
 obtain⟨P,n,c,Q,m,d,s',h1,h2,h3,h4,h5,h6⟩:=HC.out.ck
 obtain⟨c0,c1,c2,p0,p1,p2⟩:=cells3 h1
 have kl:=HC.out.lt
 obtain rfl:=h6 s rfl
 have HST:=jq h2
 have HL5:=jq h5
 clear h1 h2 h3 h4 h5 h6
 obtain⟨b0,b1,b4⟩:=cells5 HXI.out
 have bl:=jl HXI.out
 obtain⟨l,_,hrc,hml,_,hlm,hcm⟩:=HST.out.rows
 have HD:Hid (openR 5 (closedC (needR (decide (0<s.cs.length) && (lastOp s == 4)) 5 (.ok s))).fin (closeR (needR (decide (0<s.cs.length) && (lastOp s == 4)) 5 (.ok s)))=Y):=HD.out
 rw[hcm] at HD
 rcases m with _ | j
 ·have hcond:(decide (0<0) && (lastOp s == 4))=false:=rfl
  rw[hcond] at HD
  clear hcond hrc hml hlm hcm
  go_enter Tryz.func33,Tryz.ntmps33
  go_wp2_with fail
  clear c0 c1 c2 p0 p1 p2 kl b0 b1 b4 bl
  clear HBX
  generalize w.alloc (oI 5 0 B K lab)=u0 at *
  obtain⟨q,hq⟩:∃q,w.heap.size=q:=⟨_,rfl⟩
  rw[hq] at HXI HYI
  simp only[hq]
  clear hq
  refine(must_wk (b:=false) HC.out (.inl (by decide))).mono ?_
  rintro e w1 ⟨rfl,hc,hbt⟩
  have HXI:=jq (hbt.bk HXI.out HYI.out)
  have HBT:=jq (HBT.out.trans hbt)
  have HC:=jq hc
  clear hc hbt
  go_wp2_with fail
  generalize needR (false) 5 (.ok s)=x1 at *
  refine(closed_wk HC.out (by have:=HZ.out;omega)).mono ?_
  rintro e w2 ⟨r,rfl,⟨cop,P6,n6,c6,cht,cdd,l6,rfl,hr6,hn6,hl6,hc6⟩,hc,hbt⟩
  have HXI:=jq (hbt.bk HXI.out HYI.out)
  have HBT:=jq (HBT.out.trans hbt)
  have HC:=jq hc
  have HN6:=jq hn6
  have HL6:=jq hl6
  have HC6:=jq hc6
  have HR6:=jq hr6
  clear hc hbt hn6 hl6 hc6 hr6
  have HNW:=jq (zaB w2 (.cells #[.int .i64 cop,.slice P6 n6 c6,.int .i64 cht,.bool cdd] 76))
  have HFX:=jq (zaC w2 (.cells #[.int .i64 cop,.slice P6 n6 c6,.int .i64 cht,.bool cdd] 76))
  have HZK:Hid (w2.heap.size≠k):=jq (by have:=HC.out.lt;omega)
  have HXI:=jq (blk HXI.out HNW.out)
  have HR6:=jq (HR6.out.keep HNW.out)
  have HBT:=jq (HBT.out.trans (But.of_below HNW.out))
  have HC:=jq (HC.out.keep HNW.out)
  go_wp2_with fail
  generalize w2.alloc (.cells #[.int .i64 cop,.slice P6 n6 c6,.int .i64 cht,.bool cdd] 76)=u1 at *
  obtain⟨zz,hzz⟩:∃zz,w2.heap.size=zz:=⟨_,rfl⟩
  rw[hzz] at HFX HZK
  simp only[hzz]
  clear hzz HNW
  obtain⟨f0,f1⟩:=cells4c HFX.out
  have fl:=jl HFX.out
  go_wp2_with fail
  clear f0 f1 fl
  refine(open_wk HC.out (by have:=HZ.out;omega) (by constructor <;> omega) HR6.out (by have:=HN6.out;have:=HL6.out;omega)).mono ?_
  rintro e w3 ⟨rfl,hc,hbt⟩
  have HXI:=jq (hbt.bk HXI.out HYI.out)
  have HBT:=jq (HBT.out.trans hbt)
  have HC:=jq hc
  clear hc hbt
  go_wp2_with fail
  exact bodyPost_end (v:=.tuple #[]) (by simp[results,Tryz.results33,go_sem]) rfl ⟨rfl,by rw[<- HD.out,<- open_of HC6.out];exact HC.out,HBT.out⟩
 ·obtain ⟨p,hp⟩:∃p,l[j]? = some p:=⟨l[j]'(by omega),List.getElem?_eq_getElem (by omega)⟩
  have hlast:lastOp s=p.1.op:=by
   have h1:s.cs.getLast? = some p.1:=by
    rw[List.getLast?_eq_getElem?,hcm,<- hml,List.getElem?_map,Nat.add_sub_cancel,hp];rfl
   unfold lastOp
   rw[h1]
  have hcond:(decide (0<j+1) && (lastOp s == 4))=(p.1.op == 4):=by rw[decide_eq_true (Nat.succ_pos j),Bool.true_and,hlast]
  rw[hcond] at HD
  obtain⟨g,off,rfl,hg,hA,hok⟩:=hrc.at_ hp
  have e0:=hA 0 _ rfl
  obtain⟨r,hr⟩:∃r,off+j*elD.s=r:=⟨_,rfl⟩
  rw[hr] at e0
  simp only[Nat.add_zero] at e0
  have hr:off+j*4=r:=hr
  have t1:decide ((0:Int)<((j+1:Nat):Int))=true:=decide_eq_true (by omega)
  obtain⟨mm,hmm⟩:∃mm,j+1=mm:=⟨_,rfl⟩
  have HMM:=jq hmm
  rw[hmm] at t1 c1
  have e3:IntKind.i64.wrap ((mm:Int) - 1)=(j:Int):=by rw[IntWalk.i64_in _ (by have:=HZ.out;have:=HL5.out;omega)];omega
  have i1:(0:Int)<=(j:Int):=by omega
  have i2:(j:Int)<(mm:Int):=by omega
  have t1':decide (0<mm)=true:=decide_eq_true (by omega)
  clear hcond hlast hml hlm hcm hrc hp hA hok hmm
  generalize p.1.op=lop at *
  go_enter Tryz.func33,Tryz.ntmps33
  go_wp2_with fail
  clear c0 c1 c2 p0 p1 p2 kl b0 b1 b4 bl
  clear HBX
  generalize w.alloc (oI 5 0 B K lab)=u0 at *
  obtain⟨q,hq⟩:∃q,w.heap.size=q:=⟨_,rfl⟩
  rw[hq] at HXI HYI
  simp only[hq]
  clear hq
  refine(must_wk (b:=lop == 4) HC.out (.inl (by decide))).mono ?_
  rintro e w1 ⟨rfl,hc,hbt⟩
  have HXI:=jq (hbt.bk HXI.out HYI.out)
  have HBT:=jq (HBT.out.trans hbt)
  have HC:=jq hc
  clear hc hbt
  go_wp2_with fail
  generalize needR (lop == 4) 5 (.ok s)=x1 at *
  refine(closed_wk HC.out (by have:=HZ.out;omega)).mono ?_
  rintro e w2 ⟨r,rfl,⟨cop,P6,n6,c6,cht,cdd,l6,rfl,hr6,hn6,hl6,hc6⟩,hc,hbt⟩
  have HXI:=jq (hbt.bk HXI.out HYI.out)
  have HBT:=jq (HBT.out.trans hbt)
  have HC:=jq hc
  have HN6:=jq hn6
  have HL6:=jq hl6
  have HC6:=jq hc6
  have HR6:=jq hr6
  clear hc hbt hn6 hl6 hc6 hr6
  have HNW:=jq (zaB w2 (.cells #[.int .i64 cop,.slice P6 n6 c6,.int .i64 cht,.bool cdd] 76))
  have HFX:=jq (zaC w2 (.cells #[.int .i64 cop,.slice P6 n6 c6,.int .i64 cht,.bool cdd] 76))
  have HZK:Hid (w2.heap.size≠k):=jq (by have:=HC.out.lt;omega)
  have HXI:=jq (blk HXI.out HNW.out)
  have HR6:=jq (HR6.out.keep HNW.out)
  have HBT:=jq (HBT.out.trans (But.of_below HNW.out))
  have HC:=jq (HC.out.keep HNW.out)
  go_wp2_with fail
  generalize w2.alloc (.cells #[.int .i64 cop,.slice P6 n6 c6,.int .i64 cht,.bool cdd] 76)=u1 at *
  obtain⟨zz,hzz⟩:∃zz,w2.heap.size=zz:=⟨_,rfl⟩
  rw[hzz] at HFX HZK
  simp only[hzz]
  clear hzz HNW
  obtain⟨f0,f1⟩:=cells4c HFX.out
  have fl:=jl HFX.out
  go_wp2_with fail
  clear f0 f1 fl
  refine(open_wk HC.out (by have:=HZ.out;omega) (by constructor <;> omega) HR6.out (by have:=HN6.out;have:=HL6.out;omega)).mono ?_
  rintro e w3 ⟨rfl,hc,hbt⟩
  have HXI:=jq (hbt.bk HXI.out HYI.out)
  have HBT:=jq (HBT.out.trans hbt)
  have HC:=jq hc
  clear hc hbt
  go_wp2_with fail
  exact bodyPost_end (v:=.tuple #[]) (by simp[results,Tryz.results33,go_sem]) rfl ⟨rfl,by rw[<- HD.out,<- open_of HC6.out];exact HC.out,HBT.out⟩
theorem nested_11 {w:World}{k:Nat}{z:Nat}{B K:Int}{lab:Value}{s:Stk}(h:Cw w k (.ok s) z)(hz:z<=300000):Calls Tryz.prog 33 #[.pointer (some ⟨k,0,none⟩),.agg #[.int .i64 11,.int .i64 0,.int .i64 B,.int .u64 K,lab]] w (CwEnds w k (endR s) (z+1) (.tuple #[])):=by
 obtain⟨Y,hY⟩:∃Y,(endR s)=Y:=⟨_,rfl⟩
 rw[hY]
 have HD:=jq hY
 clear hY
 have HBX:=jq (zaB w (oI 11 0 B K lab))
 have HXI:=jq (zaC w (oI 11 0 B K lab))
 have HYI:Hid (w.heap.size≠k):=jq (by have:=h.lt;omega)
 have HC:=jq (h.keep HBX.out)
 have HBT:Hid (But k w (w.alloc (oI 11 0 B K lab))):=But.of_below HBX.out
 have HZ:=jq hz
 clear h hz
 obtain⟨P,n,c,Q,m,d,s',h1,h2,h3,h4,h5,h6⟩:=HC.out.ck
 obtain⟨c0,c1,c2,p0,p1,p2⟩:=cells3 h1
 have kl:=HC.out.lt
 obtain rfl:=h6 s rfl
 have HST:=jq h2
 clear h1 h2 h3 h4 h5 h6
 obtain⟨b0,b1,b4⟩:=cells5 HXI.out
 have bl:=jl HXI.out
 obtain⟨l,_,hrc,hml,_,hlm,hcm⟩:=HST.out.rows
 have HD:Hid (pushR (closedC (needR (decide (2<=s.cs.length)) 5 (.ok s))).fin (needR (((closedC (needR (decide (2<=s.cs.length)) 5 (.ok s))).op != 4) || ((closedC (needR (decide (2<=s.cs.length)) 5 (.ok s))).fin.length == 0)) 5 (closeR (needR (decide (2<=s.cs.length)) 5 (.ok s))))=Y):=HD.out
 have hcond:decide (2<=s.cs.length)=decide ((1:Int)<(m:Int)):=decide_eq_decide.2 (by rw[hcm];omega)
 rw[hcond] at HD
 clear hcond hrc hml hlm hcm
 generalize hb0:decide ((1:Int)<(m:Int))=bb at *
 go_enter Tryz.func33,Tryz.ntmps33
 go_wp2_with fail
 clear c0 c1 c2 p0 p1 p2 kl b0 b1 b4 bl
 clear HBX
 generalize w.alloc (oI 11 0 B K lab)=u0 at *
 obtain⟨q,hq⟩:∃q,w.heap.size=q:=⟨_,rfl⟩
 rw[hq] at HXI HYI
 simp only[hq]
 clear hq
 refine(must_wk (b:=bb) HC.out (.inl (by decide))).mono ?_
 rintro e w1 ⟨rfl,hc,hbt⟩
 have HXI:=jq (hbt.bk HXI.out HYI.out)
 have HBT:=jq (HBT.out.trans hbt)
 have HC:=jq hc
 clear hc hbt
 go_wp2_with fail
 generalize needR bb 5 (.ok s)=x1 at *
 refine(closed_wk HC.out (by have:=HZ.out;omega)).mono ?_
 rintro e w2 ⟨r,rfl,⟨cop,P6,n6,c6,cht,cdd,l6,rfl,hr6,hn6,hl6,hc6⟩,hc,hbt⟩
 have HXI:=jq (hbt.bk HXI.out HYI.out)
 have HBT:=jq (HBT.out.trans hbt)
 have HC:=jq hc
 have HN6:=jq hn6
 have HL6:=jq hl6
 have HC6:=jq hc6
 have HR6:=jq hr6
 clear hc hbt hn6 hl6 hc6 hr6
 have HNW:=jq (zaB w2 (.cells #[.int .i64 cop,.slice P6 n6 c6,.int .i64 cht,.bool cdd] 76))
 have HFX:=jq (zaC w2 (.cells #[.int .i64 cop,.slice P6 n6 c6,.int .i64 cht,.bool cdd] 76))
 have HZK:Hid (w2.heap.size≠k):=jq (by have:=HC.out.lt;omega)
 have HXI:=jq (blk HXI.out HNW.out)
 have HR6:=jq (HR6.out.keep HNW.out)
 have HBT:=jq (HBT.out.trans (But.of_below HNW.out))
 have HC:=jq (HC.out.keep HNW.out)
 have hE:=end_of HC6.out
 rw[<- hE] at HD
 clear hE
 have hlen:(l6.length == 0)=((n6:Int) == 0):=by rw[HN6.out];cases n6 <;> rfl
 rw[hlen] at HD
 clear hlen
 obtain⟨f0,f1⟩:=cells4c HFX.out
 have fl:=jl HFX.out
 by_cases h4:cop=4
 ·subst h4
  have hb:(((4:Int) != 4) || ((n6:Int) == 0))=((n6:Int) == 0):=by simp
  rw[hb] at HD
  clear hb
  go_wp2_with fail
  clear f0 f1 fl
  generalize w2.alloc (.cells #[.int .i64 4,.slice P6 n6 c6,.int .i64 cht,.bool cdd] 76)=u1 at *
  obtain⟨zz,hzz⟩:∃zz,w2.heap.size=zz:=⟨_,rfl⟩
  rw[hzz] at HFX HZK
  simp only[hzz]
  clear hzz HNW
  refine(must_wk (b:=(n6:Int) == 0) HC.out (.inl (by decide))).mono ?_
  rintro e w9 ⟨rfl,hc,hbt⟩
  have HFX:=jq (hbt.bk HFX.out HZK.out)
  have HR6:=jq (zaG HR6.out HC.out.nobb hbt)
  have HXI:=jq (hbt.bk HXI.out HYI.out)
  have HBT:=jq (HBT.out.trans hbt)
  have HC:=jq hc
  clear hc hbt
  obtain⟨f0,f1⟩:=cells4c HFX.out
  have fl:=jl HFX.out
  go_wp2_with fail
  clear f0 f1 fl
  refine(push_wk (y:=1) HC.out (by have:=HZ.out;omega) HR6.out (by have:=HN6.out;have:=HL6.out;omega) (by omega)).mono ?_
  rintro e w3 ⟨rfl,hc,hbt⟩
  have HXI:=jq (hbt.bk HXI.out HYI.out)
  have HBT:=jq (HBT.out.trans hbt)
  have HC:=jq hc
  clear hc hbt
  go_wp2_with fail
  exact bodyPost_end (v:=.tuple #[]) (by simp[results,Tryz.results33,go_sem]) rfl ⟨rfl,by rw[<- HD.out];exact HC.out,HBT.out⟩
 ·have t1:(cop == 4)=false:=by simpa using h4
  have t2:(cop != 4)=true:=by simpa using h4
  rw[t2,Bool.true_or] at HD
  go_wp2_with fail
  clear f0 f1 fl
  generalize w2.alloc (.cells #[.int .i64 cop,.slice P6 n6 c6,.int .i64 cht,.bool cdd] 76)=u1 at *
  obtain⟨zz,hzz⟩:∃zz,w2.heap.size=zz:=⟨_,rfl⟩
  rw[hzz] at HFX HZK
  simp only[hzz]
  clear hzz HNW
  refine(must_wk (b:=true) HC.out (.inl (by decide))).mono ?_
  rintro e w9 ⟨rfl,hc,hbt⟩
  have HFX:=jq (hbt.bk HFX.out HZK.out)
  have HR6:=jq (zaG HR6.out HC.out.nobb hbt)
  have HXI:=jq (hbt.bk HXI.out HYI.out)
  have HBT:=jq (HBT.out.trans hbt)
  have HC:=jq hc
  clear hc hbt
  obtain⟨f0,f1⟩:=cells4c HFX.out
  have fl:=jl HFX.out
  go_wp2_with fail
  clear f0 f1 fl
  refine(push_wk (y:=1) HC.out (by have:=HZ.out;omega) HR6.out (by have:=HN6.out;have:=HL6.out;omega) (by omega)).mono ?_
  rintro e w3 ⟨rfl,hc,hbt⟩
  have HXI:=jq (hbt.bk HXI.out HYI.out)
  have HBT:=jq (HBT.out.trans hbt)
  have HC:=jq hc
  clear hc hbt
  go_wp2_with fail
  exact bodyPost_end (v:=.tuple #[]) (by simp[results,Tryz.results33,go_sem]) rfl ⟨rfl,by rw[<- HD.out];exact HC.out,HBT.out⟩
def RStepEnds (w:World)(x:Rs)(e:Ending)(w':World):Prop:=
 (match x with
  | .ok s=>∃v,e= .returned (.tuple #[v,.int .i64 0])/\StIs elD w' v s
  | .er c=>c≠0/\e= .returned (.tuple #[.agg #[.slice none 0 0,.slice none 0 0],.int .i64 c]))/\Below w.heap.size w w'
theorem cells5a {w:World}{y:Nat}{a b c d e:Value}{t:TypeId}(h:w.heap[y]? = some (.cells #[a,b,c,d,e] t (0,0))):w.cell? ⟨y,0,none⟩=some a/\w.cell? ⟨y,1,none⟩=some b/\w.cell? ⟨y,2,none⟩=some c/\w.cell? ⟨y,3,none⟩=some d/\w.cell? ⟨y,4,none⟩=some e:=
 ⟨(zaA h 0).1,(zaA h 1).1,(zaA h 2).1,(zaA h 3).1,(zaA h 4).1⟩
theorem cells2k {w:World}{y:Nat}{a b:Value}{t:TypeId}(h:w.heap[y]? = some (.cells #[a,b] t (0,0))):w.cell? ⟨y,0,none⟩=some a/\w.cell? ⟨y,1,none⟩=some b/\w.frozen? ⟨y,0,none⟩=false/\w.frozen? ⟨y,1,none⟩=false:=
 ⟨(zaA h 0).1,(zaA h 1).1,(zaA h 0).2,(zaA h 1).2⟩
theorem nobb_st {w:World}{y:Nat}{P Q:Option Addr}{n c m d:Nat}(h:w.heap[y]? = some (.cells #[.slice P n c,.slice Q m d] 30 (0,0))):NoBB w y:=
 nobb_of h (by intro u hu;simp only[List.mem_cons,List.not_mem_nil,or_false] at hu;rcases hu with rfl | rfl <;> exact ⟨fun x=>by simp,fun b=>by simp⟩)
theorem below_drw {B:Nat}{w w':World}(h:Below B w w'):Below B w w'.drew:=⟨h.os,h.tape,h.output,h.size,h.block⟩
theorem rstep_0 {w:World}{V:EV}{E:EnvP}{A B K:Int}{PL:Option Addr}{nL cL:Nat}{LL:List Int}{P Q:Option Addr}{n c m d:Nat}{s:Stk}(hE:EnvOk elGD w V E)(hS:StIs elD w (.agg #[.slice P n c,.slice Q m d]) s)(hz:s.vals.length<=290000/\s.cs.length<=290000)(hF:FnBd E)(hL:Ins.SlI w (.slice PL nL cL) LL)(hs:sane s=true)(hi:Ins.saneI ⟨0,A,B,K,LL⟩=true):Calls Tryz.prog 15 #[(.agg #[.slice V.Pt V.nt V.ct,.slice V.Pf V.nf V.cf,.int .i64 E.tables,.int .i64 E.mems,.slice V.Pg V.ng V.cg,.slice V.Pl V.nl V.cl,.slice V.Pr V.nr V.cr]),.agg #[.slice P n c,.slice Q m d],(.agg #[.int .i64 0,.int .i64 A,.int .i64 B,.int .u64 K,.slice PL nL cL])] w (RStepEnds w (killR (.ok s))):=by
 obtain⟨X,hX⟩:∃X,(killR (.ok s))=X:=⟨_,rfl⟩
 rw[hX]
 have HXX:=jq hX
 clear hX
 obtain⟨HBX,HXE,HXS,HXI,HXR⟩:=four (w:=w) (oE V E) (oS P n c Q m d) (oI 0 A B K (.slice PL nL cL)) (.cells #[.slice none 0 0,.slice none 0 0] 30)
 have HBX:=jq HBX
 have HXE:=jq HXE
 have HXS:=jq HXS
 have HXI:=jq HXI
 have HXR:=jq HXR
 have HE:=jq (hE.keep HBX.out)
 have HST:=jq (hS.keep HBX.out)
 have HLB:=jq (hL.keep HBX.out)
 have HNL:Hid (LL.length=nL):=jq (by obtain ⟨A0,c0,e,_⟩:=hL;injection e with _ e;exact e.symm)
 have HZ:=jq hz
 have HFB:=jq hF
 have HSS:=jq hs
 have HSI:=jq hi
 clear hE hS hz hF hL hs hi
 obtain⟨a0,a1,a2,a3,a4,a5,a6⟩:=zaK HXE.out
 have al:=jl HXE.out
 obtain⟨s0,s1,sp0,sp1⟩:=cells2k HXS.out
 have sl:=jl HXS.out
 obtain⟨b0,b1,b2,b3,b4⟩:=cells5a HXI.out
 have bl:=jl HXI.out
 go_enter Tryz.func15,Tryz.ntmps15
 go_wp2_with fail
 clear a0 a1 a2 a3 a4 a5 a6 al s0 s1 sp0 sp1 sl b0 b1 b2 b3 b4 bl
 generalize ((((w.alloc (oE V E)).alloc (oS P n c Q m d)).alloc (oI 0 A B K (.slice PL nL cL))).alloc (.cells #[.slice none 0 0,.slice none 0 0] 30))=u0 at *
 obtain⟨y,hy⟩:∃y,w.heap.size=y:=⟨_,rfl⟩
 have HBY:=jq hy
 rw[hy] at HXE HXS HXI HXR
 simp only[hy]
 clear hy
 refine(Stk.rsane_any HST.out).mono ?_
 rintro e w1 ⟨rfl,hb⟩
 rw[HSS.out]
 have HB1:=jq (HBX.out.trans (hb.mono HBX.out.size))
 have HXE:=jq (blk HXE.out hb)
 have HXS:=jq (blk HXS.out hb)
 have HXI:=jq (blk HXI.out hb)
 have HXR:=jq (blk HXR.out hb)
 have HE:=jq (HE.out.keep hb)
 have HST:=jq (HST.out.keep hb)
 have HLB:=jq (HLB.out.keep hb)
 clear hb HBX
 obtain⟨b0,b1,b2,b3,b4⟩:=cells5a HXI.out
 have bl:=jl HXI.out
 go_wp2_with fail
 clear b0 b1 b2 b3 b4 bl
 refine(Ins.rsane_any (x:=⟨0,A,B,K,LL⟩) HLB.out).mono ?_
 rintro e w2 ⟨rfl,hb⟩
 rw[HSI.out]
 have HB1:=jq (HB1.out.trans (hb.mono HB1.out.size))
 have HXE:=jq (blk HXE.out hb)
 have HXS:=jq (blk HXS.out hb)
 have HXI:=jq (blk HXI.out hb)
 have HXR:=jq (blk HXR.out hb)
 have HE:=jq (HE.out.keep hb)
 have HST:=jq (HST.out.keep hb)
 have HLB:=jq (HLB.out.keep hb)
 clear hb
 obtain⟨s0,s1,sp0,sp1⟩:=cells2k HXS.out
 have sl:=jl HXS.out
 obtain⟨b0,b1,b2,b3,b4⟩:=cells5a HXI.out
 have bl:=jl HXI.out
 go_wp2_with fail
 clear s0 s1 sp0 sp1 sl b0 b1 b2 b3 b4 bl
 have HNK:=jq (zaB w2 (.cells #[.slice P n c,.slice Q m d,.int .i64 0] 86))
 have HCK:Hid (Cw (w2.alloc (.cells #[.slice P n c,.slice Q m d,.int .i64 0] 86)) w2.heap.size (.ok s) 290000):=jq ⟨⟨P,n,c,Q,m,d,s,zaC _ _,HST.out.keep HNK.out,HSS.out,HZ.out.1,HZ.out.2,fun t ht=>by injection ht with ht;exact ht.symm⟩,fun e he=>by cases he⟩
 have HEV:Hid (EvAt (w2.alloc (.cells #[.slice P n c,.slice Q m d,.int .i64 0] 86)) w2.heap.size V E):=jq ⟨w2,HE.out,Nat.le_refl _,HNK.out⟩
 have HLA:Hid (LabAt (w2.alloc (.cells #[.slice P n c,.slice Q m d,.int .i64 0] 86)) w2.heap.size (.slice PL nL cL) LL):=jq ⟨w2,HLB.out,Nat.le_refl _,HNK.out⟩
 have HYK:Hid (y+3<w2.heap.size):=jq (jl HXR.out)
 have HXE:=jq (blk HXE.out HNK.out)
 have HXS:=jq (blk HXS.out HNK.out)
 have HST:=jq (HST.out.keep HNK.out)
 have HXI:=jq (blk HXI.out HNK.out)
 have HXR:=jq (blk HXR.out HNK.out)
 have HB2:=jq (HB1.out.trans (HNK.out.mono HB1.out.size))
 have HWK:Hid (w.heap.size<=w2.heap.size):=HB1.out.size
 clear HE HLB HB1 HNK
 generalize w2.alloc (.cells #[.slice P n c,.slice Q m d,.int .i64 0] 86)=u1 at *
 obtain⟨k,hk⟩:∃k,w2.heap.size=k:=⟨_,rfl⟩
 rw[hk] at HCK HEV HLA HYK HWK
 simp only[hk]
 clear hk
 refine((Ints.rshape_is 0) _).mono ?_
 rintro e w3 ⟨PS,nS,TS,rfl,hb⟩
 have HXE:=jq (blk HXE.out hb)
 have HXI:=jq (blk HXI.out hb)
 have HXR:=jq (blk HXR.out hb)
 have HXS:=jq (blk HXS.out hb)
 have HST:=jq (HST.out.keep hb)
 have HCK:=jq (HCK.out.keep hb)
 have HEV:=jq (HEV.out.keep hb)
 have HLA:=jq (HLA.out.keep hb)
 have HB2:=jq (HB2.out.trans (hb.mono HB2.out.size))
 clear hb
 obtain⟨a0,a1,a2,a3,a4,a5,a6⟩:=zaK HXE.out
 have al:=jl HXE.out
 obtain⟨b0,b1,b2,b3,b4⟩:=cells5a HXI.out
 have bl:=jl HXI.out
 go_wp2_with fail
 clear a0 a1 a2 a3 a4 a5 a6 al b0 b1 b2 b3 b4 bl
 refine(kill_wk HCK.out (by omega)).mono ?_
 rintro e w4 ⟨rfl,hc,hbt⟩
 rw[HXX.out] at hc
 have HXR:=jq ((hbt.block (y+3) (jl HXR.out) (by have:=HYK.out;omega)).trans HXR.out)
 have HB:=jq (HB2.out.trans (hbt.below HWK.out HCK.out.lt))
 clear hbt HB2 HEV HLA HCK HXE HXI HXS HST
 obtain⟨⟨P5,n5,c5,Q5,m5,d5,s5,h1,h2,h3,h4,h5,h6⟩,hne⟩:=hc
 obtain⟨c0,c1,c2,p0,p1,p2⟩:=cells3 h1
 have kl:=jl h1
 obtain⟨r0,r1,rp0,rp1⟩:=cells2k HXR.out
 have rl:=jl HXR.out
 have HS5:=jq h2
 have hrk:y+3≠k:=by have:=HYK.out;omega
 have hkr:k≠y+3:=by omega
 cases X with
 | er ee=>
  have HNE:=jq (hne ee rfl)
  have t1:(ee == 0)=false:=by simpa using HNE.out
  have t2:(ee != 0)=true:=by simpa using HNE.out
  simp only[Rs.code] at c2
  clear h1 h2 h3 h4 h5 h6 hne
  go_wp2_with fail
  go_region
  all_goals (
   go_wp2_with fail
   have hy:=HBY.out
   have hx:(((w4.setCell ⟨y+3,0,none⟩ (.slice none 0 0)).setCell ⟨y+3,1,none⟩ (.slice none 0 0)).drew).heap[y+3]? = some (.cells #[.slice none 0 0,.slice none 0 0] 30 (0,0)):=zaE (zaE HXR.out (i:=0) (.slice none 0 0)) (i:=1) (.slice none 0 0)
   obtain⟨q0,q1⟩:_/\_:=⟨(zaA hx 0).1,(zaA hx 1).1⟩
   exact bodyPost_ret (v:=.tuple #[.agg #[.slice none 0 0,.slice none 0 0],.int .i64 ee]) (by simp[results,Tryz.results15,go_sem,q0,q1]) rfl ⟨⟨HNE.out,rfl⟩,below_drw ((HB.out.setCell (p:=⟨y+3,0,none⟩) (by show w.heap.size<=y+3;omega) _).setCell (p:=⟨y+3,1,none⟩) (by show w.heap.size<=y+3;omega) _)⟩)
 | ok s6=>
  obtain rfl:=h6 s6 rfl
  simp only[Rs.code] at c2
  clear h1 h2 h3 h4 h5 h6 hne
  go_wp2_with fail
  have hy:=HBY.out
  have hbz:But (y+3) w4 ((w4.setCell ⟨y+3,0,none⟩ (.slice P5 n5 c5)).setCell ⟨y+3,1,none⟩ (.slice Q5 m5 d5)):=((But.refl _ w4).setCell 0 _).setCell 1 _
  have hx:=zaE (zaE HXR.out (i:=0) (.slice P5 n5 c5)) (i:=1) (.slice Q5 m5 d5)
  obtain⟨q0,q1⟩:_/\_:=⟨(zaA hx 0).1,(zaA hx 1).1⟩
  exact bodyPost_ret (v:=.tuple #[.agg #[.slice P5 n5 c5,.slice Q5 m5 d5],.int .i64 0]) (by simp[results,Tryz.results15,go_sem,q0,q1]) rfl ⟨⟨_,rfl,StIs.apart (e:=76) (hi:=infoD) HS5.out (nobb_st HXR.out) hbz⟩,(HB.out.setCell (p:=⟨y+3,0,none⟩) (by show w.heap.size<=y+3;omega) _).setCell (p:=⟨y+3,1,none⟩) (by show w.heap.size<=y+3;omega) _⟩
end Go.Proofs.YtlappkflnlbfcaaGreatDoor.Chk
