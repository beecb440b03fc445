/- StkEl, StkSmall, StkDr, StkPop, StkWant. -/
import Derived.Test.YtlappkflnlbfcaaGreatDoorPkRow9
section
namespace Go.Proofs.YtlappkflnlbfcaaGreatDoor.Stk
open Lib (hid)
open Go.RowKit Row9
set_option maxRecDepth 100000
set_option maxHeartbeats 2000000
set_option linter.unusedVariables false
structure Ctl where
 op:Int
 fin:List Int
 ht:Int
 dead:Bool
structure Stk where
 vals:List Int
 cs:List Ctl
def isV (x:Int):Bool:=(x == 127) || (x == 126)
def noT (x:Int):Bool:=(x != 0) && !(isV x)
def mayE:List Int->Bool
 | []=>true
 | [x]=>isV x
 | _ :: _ :: _=>false
def sgo:Int->List Ctl->Option Int
 | h,[]=>some h
 | h,c :: r=>if (mayE c.fin && decide (h<=c.ht))=true then sgo c.ht r else none
def sane (s:Stk):Bool:=match sgo 0 s.cs with
 | none=>false
 | some h=>decide (h<=s.vals.length) && !(s.vals.any noT)
def none_:Stk:=⟨[],[]⟩
def zeroC:Ctl:=⟨0,[],0,false⟩
def pushS (s:Stk)(l:List Int):Stk×Int:=if sane s=false then (none_,1) else if l.any noT=true then (none_,1) else (⟨s.vals ++ l,s.cs⟩,0)
def popV (o:Option Ctl)(vals:List Int):Option (List Int×Int):=match o with
 | none=>none
 | some c=>if c.ht<vals.length then some (vals.dropLast,vals.getLastD 0) else if c.dead=true then some (vals,0) else none
def fit (v x:Int):Bool:=(v == x) || (v == 0) || (x == 0)
def wantV (o:Option Ctl):List Int->List Int->Option (List Int)
 | vals,[]=>some vals
 | vals,x :: r=>match popV o vals with
  | none=>none
  | some (vs,v)=>if fit v x=true then wantV o vs r else none
def popS (s:Stk):Stk×Int×Int:=if sane s=false then (none_,0,1) else match popV s.cs.getLast? s.vals with
 | none=>(none_,0,5)
 | some (vs,v)=>(⟨vs,s.cs⟩,v,0)
def wantS (s:Stk)(l:List Int):Stk×Int:=if sane s=false then (none_,1) else match wantV s.cs.getLast? s.vals l.reverse with
 | none=>(none_,5)
 | some vs=>(⟨vs,s.cs⟩,0)
def openS (s:Stk)(op:Int)(l:List Int):Stk×Int:=if sane s=false then (none_,1) else if mayE l=false then (none_,1) else (⟨s.vals,s.cs ++ [⟨op,l,s.vals.length,false⟩]⟩,0)
def zaM (s:Stk):Stk×Ctl×Int:=if sane s=false then (none_,zeroC,1) else match s.cs.getLast? with
 | none=>(none_,zeroC,5)
 | some c=>match wantV (some c) s.vals c.fin.reverse with
  | none=>(none_,zeroC,5)
  | some vs=>if (vs.length:Int)≠c.ht then (none_,zeroC,5) else (⟨vs,s.cs.dropLast⟩,c,0)
def killS (s:Stk):Stk×Int:=if sane s=false then (none_,1) else match s.cs.getLast? with
 | none=>(none_,5)
 | some c=>(⟨s.vals.take c.ht.toNat,s.cs.dropLast ++ [{ c with dead:=true }]⟩,0)
def labelS (s:Stk)(n:Int):List Int×Int:=if sane s=false then ([],1) else if n<0\/(s.cs.length:Int)<=n then ([],6) else
 match s.cs[s.cs.length - 1 - n.toNat]? with
 | none=>([],6)
 | some c=>if c.op=3 then ([],0) else (c.fin,0)
def w64 (x:Int):Prop:=-9223372036854775808<=x/\x<=9223372036854775807
abbrev CtV:=Ctl×Value
def cc (p:CtV):List Value:=[.int .i64 p.1.op,p.2,.int .i64 p.1.ht,.bool p.1.dead]
def elB:El Int where
 e:=5
 s:=1
 z:=.int .u8 0
 bytes:=1
 enc:=fun x=>[.int .u8 x]
 ok:=fun _ x=>0<=x/\x<256
 pos:=by decide
 len:=fun _=>rfl
 info:=by kernel_rfl
 zs:=rfl
 stay:=fun h _=>h
 one:=fun h u hu=>by
  simp only[List.mem_cons,List.not_mem_nil,or_false] at hu
  rcases hu with rfl
  rfl
def CtOk (w:World)(p:CtV):Prop:=Row elB w p.2 p.1.fin/\w64 p.1.op/\w64 p.1.ht
theorem CtOk.keep {w w':World}{p:CtV}(h:CtOk w p)(hb:Below w.heap.size w w'):CtOk w' p:=⟨h.1.keep hb,h.2⟩
theorem row_oneCell {α:Type}{T:El α}{w:World}{v:Value}{l:List α}(h:Row T w v l):v.oneCell'=true:=by
 obtain⟨A,c,rfl,_⟩:=h.form
 rfl
def elCt (e:TypeId)(hi:(Tryz.prog.info? e).map (fun i=>(i.zero,i.size,i.bytes))=some (some (.agg #[.int .i64 0,.slice none 0 0,.int .i64 0,.bool false]),4,48)):El CtV where
 e:=e
 s:=4
 z:=.agg #[.int .i64 0,.slice none 0 0,.int .i64 0,.bool false]
 bytes:=48
 enc:=cc
 ok:=CtOk
 pos:=by decide
 len:=fun _=>rfl
 info:=hi
 zs:=rfl
 stay:=fun h hb=>h.keep hb
 one:=fun h u hu=>by
  simp only[cc,List.mem_cons,List.not_mem_nil,or_false] at hu
  rcases hu with rfl | rfl | rfl | rfl
  ·rfl
  ·exact row_oneCell h.1
  ·rfl
  ·rfl
theorem infoP:(Tryz.prog.info? 72).map (fun i=>(i.zero,i.size,i.bytes))=some (some (.agg #[.int .i64 0,.slice none 0 0,.int .i64 0,.bool false]),4,48):=by kernel_rfl
theorem infoD:(Tryz.prog.info? 76).map (fun i=>(i.zero,i.size,i.bytes))=some (some (.agg #[.int .i64 0,.slice none 0 0,.int .i64 0,.bool false]),4,48):=by kernel_rfl
def elP:El CtV:=elCt 72 infoP
def elD:El CtV:=elCt 76 infoD
def StIs (T:El CtV)(w:World)(v:Value)(s:Stk):Prop:=∃a c l,v= .agg #[a,c]/\Row elB w a s.vals/\Row T w c l/\l.map (·.1)=s.cs
theorem StIs.keep {T:El CtV}{w w':World}{v:Value}{s:Stk}(h:StIs T w v s)(hb:Below w.heap.size w w'):StIs T w' v s:=by
 obtain⟨a,c,l,h1,h2,h3,h4⟩:=h
 exact⟨a,c,l,h1,h2.keep hb,h3.keep hb,h4⟩
theorem StIs.none_ (T:El CtV)(w:World):StIs T w (.agg #[.slice none 0 0,.slice none 0 0]) none_:=⟨_,_,[],rfl,Row.nil _ _,Row.nil _ _,rfl⟩
theorem byte_at {w:World}{A:Option Addr}{n c:Nat}{l:List Int}(h:Row elB w (.slice A n c) l){j:Nat}(hj:j<l.length):∃g off,A=some ⟨g,off,none⟩/\g<w.heap.size/\w.cell? ⟨g,off+j,none⟩=some (.int .u8 (l.getD j 0))/\0<=l.getD j 0/\l.getD j 0<256:=by
 obtain⟨x,hx⟩:∃x,l[j]? = some x:=⟨_,List.getElem?_eq_getElem hj⟩
 obtain⟨g,off,e,hg,hC,hO⟩:=h.at_ hx
 have e1:l.getD j 0=x:=by rw[List.getD_eq_getElem?_getD,hx];rfl
 rw[e1]
 refine⟨g,off,e,hg,?_,hO.1,hO.2⟩
 have:=hC 0 _ rfl
 simpa [elB] using this
theorem run_txt {w:World}{v:Value}{l:List Int}(h:Row elB w v l):(convert 25 9 v).run Tryz.prog w= .ok (.string (strOfNums l)) w:=by
 obtain⟨A,c,rfl,h2,h3⟩:=h.form
 by_cases h0:l = []
 ·subst h0
  cases A with
  | none=>rfl
  | some a=>rfl
 ·have hpos:0<l.length:=List.length_pos_iff.2 h0
  obtain⟨g,off,rfl,_⟩:=byte_at h hpos
  exact run_convert_bytes_arg w 25 5 Tryz.underlying25 Tryz.underlying5 g off l.length c l rfl (fun i hi=>by
   obtain⟨g',off',e,_,hc,_⟩:=byte_at h hi
   simp only[Option.some.injEq,Addr.mk.injEq,and_true] at e
   obtain⟨rfl,rfl⟩:=e
   exact hc) 9 Tryz.underlying9
theorem str_inj {a b:List Int}(ha:∀x∈a,0<=x/\x<256)(hb:∀x∈b,0<=x/\x<256)(h:strOfNums a=strOfNums b):a=b:=by
 have e:=congrArg (fun s=>s.data.toList) h
 simp only[strOfNums_data] at e
 have key:∀ (a b:List Int),(∀x∈a,0<=x/\x<256)->(∀x∈b,0<=x/\x<256)->(a.map fun n=>UInt8.ofNat n.toNat)=(b.map fun n=>UInt8.ofNat n.toNat)->a=b:=by
  intro a
  induction a with
  | nil=>intro b _ _ h;cases b with
   | nil=>rfl
   | cons y b=>simp at h
  | cons x a ih=>intro b ha hb h;cases b with
   | nil=>simp at h
   | cons y b=>
    simp only[List.map_cons,List.cons.injEq] at h
    have hx:=ha x (by simp)
    have hy:=hb y (by simp)
    have h1:=congrArg UInt8.toNat h.1
    simp only[UInt8.toNat_ofNat'] at h1
    have:x=y:=by omega
    rw[this,ih b (fun z hz=>ha z (by simp[hz])) (fun z hz=>hb z (by simp[hz])) h.2]
 exact key a b ha hb e
theorem str_beq {a b:List Int}(ha:∀x∈a,0<=x/\x<256)(hb:∀x∈b,0<=x/\x<256):((strOfNums a).toList == (strOfNums b).toList)=decide (a=b):=by
 by_cases h:a=b
 ·subst h;simp
 ·rw[decide_eq_false h]
  have:(strOfNums a).toList≠(strOfNums b).toList:=fun e=>h (str_inj ha hb (by
   rw[Lib.toList_data,Lib.toList_data] at e
   exact ByteArray.ext (Array.toList_inj.1 e)))
  simpa using this
theorem ctl_at {e:TypeId}{hi}{w:World}{A:Option Addr}{n c:Nat}{l:List CtV}(h:Row (elCt e hi) w (.slice A n c) l){j:Nat}{p:CtV}(hj:l[j]? = some p):
  ∃g off,A=some ⟨g,off,none⟩/\g<w.heap.size/\w.cell? ⟨g,off+j*4,none⟩=some (.int .i64 p.1.op)/\w.cell? ⟨g,off+j*4+1,none⟩=some p.2/\w.cell? ⟨g,off+j*4+2,none⟩=some (.int .i64 p.1.ht)/\w.cell? ⟨g,off+j*4+3,none⟩=some (.bool p.1.dead)/\CtOk w p:=by
 obtain⟨g,off,e,hg,hC,hO⟩:=h.at_ hj
 exact⟨g,off,e,hg,hC 0 _ rfl,hC 1 _ rfl,hC 2 _ rfl,hC 3 _ rfl,hO⟩
theorem drewB (w:World)(n:Nat){B:Nat}(_:B<=w.heap.size):Below B w (w.drewN n):=⟨rfl,rfl,rfl,Nat.le_refl _,fun _ _=>rfl⟩
theorem isval_any (x:Int)(w:World):Calls Tryz.prog 86 #[.int .u8 x] w fun e w'=>e= .returned (.bool (isV x))/\w'=w:=by
 unfold isV
 cases hx:(x == 127) <;> cases hy:(x == 126)
 all_goals (
  go_enter Tryz.func86,Tryz.ntmps86
  go_wp2_with fail
  first
  | exact bodyPost_ret (v:=.bool true) (by simp[results,Tryz.results86,go_sem]) rfl ⟨rfl,rfl⟩
  | exact bodyPost_ret (v:=.bool false) (by simp[results,Tryz.results86,go_sem]) rfl ⟨rfl,rfl⟩)
theorem not_any (x:Int)(w:World):Calls Tryz.prog 57 #[.int .u8 x] w fun e w'=>e= .returned (.bool (noT x))/\w'=w:=by
 have HC:=hid (isval_any x w)
 unfold noT
 cases hx:(x != 0) with
 | false=>
  rw[Bool.false_and]
  go_enter Tryz.func57,Tryz.ntmps57
  go_wp2_with fail
  exact bodyPost_ret (v:=.bool false) (by simp[results,Tryz.results57,go_sem]) rfl ⟨rfl,rfl⟩
 | true=>
  rw[Bool.true_and]
  revert HC
  generalize isV x=q
  intro HC
  go_enter Tryz.func57,Tryz.ntmps57
  go_wp2_with fail
  refine HC.out.mono ?_
  rintro e w1 ⟨rfl,rfl⟩
  go_wp2_with fail
  exact bodyPost_ret (v:=.bool (!q)) (by simp[results,Tryz.results57,go_sem]) rfl ⟨rfl,rfl⟩
theorem mayend_any {v:Value}{l:List Int}{w:World}(h:Row elB w v l):Calls Tryz.prog 55 #[v] w fun e w'=>e= .returned (.bool (mayE l))/\w'=w:=by
 obtain⟨A,c,rfl,hc,hm⟩:=h.form
 match l,h with
 | [],h=>
  clear h
  go_enter Tryz.func55,Tryz.ntmps55
  go_wp2_with fail
  exact bodyPost_ret (v:=.bool true) (by simp[results,Tryz.results55,go_sem]) rfl ⟨rfl,rfl⟩
 | [x],h=>
  have HC:=hid (isval_any x w)
  obtain⟨g,off,rfl,hg,h0,_⟩:=byte_at h (j:=0) (by simp)
  have h0:w.cell? ⟨g,off,none⟩=some (.int .u8 x):=h0
  show Calls _ _ _ _ fun e w'=>e= .returned (.bool (isV x))/\w'=w
  clear h
  revert HC
  generalize isV x=q
  intro HC
  simp only[List.length_cons,List.length_nil] at hc ⊢
  go_enter Tryz.func55,Tryz.ntmps55
  go_wp2_with fail
  refine HC.out.mono ?_
  rintro e w1 ⟨rfl,rfl⟩
  go_wp2_with fail
  exact bodyPost_ret (v:=.bool q) (by simp[results,Tryz.results55,go_sem]) rfl ⟨rfl,rfl⟩
 | x :: y :: r,h=>
  show Calls _ _ _ _ fun e w'=>e= .returned (.bool false)/\w'=w
  obtain⟨n,hn⟩:∃n,(x :: y :: r).length=n:=⟨_,rfl⟩
  have hn2:2<=n:=by rw[<- hn];simp
  rw[hn]
  have t0:((n:Int) == 0)=false:=by simpa using (show (n:Int)≠0 by omega)
  have t1:((n:Int) == 1)=false:=by simpa using (show (n:Int)≠1 by omega)
  have t0':(n == 0)=false:=by simpa using (show n≠0 by omega)
  have t1':(n == 1)=false:=by simpa using (show n≠1 by omega)
  clear h hc hn hn2
  go_enter Tryz.func55,Tryz.ntmps55
  go_wp2_with fail
  exact bodyPost_ret (v:=.bool false) (by simp[results,Tryz.results55,go_sem]) rfl ⟨rfl,rfl⟩
theorem idx_any {L:List Int}{v:Value}{w:World}(hx:Row elB w v L):
  Calls Tryz.prog 87 #[v,.func (.func 57) #[] #[]] w fun e w'=>(∃r:Int,e= .returned (.int .i64 r)/\decide (0<=r)=L.any noT)/\w'=w:=by
 obtain⟨A,c,rfl,hc,hm⟩:=hx.form
 have hrun:∀args W,(callFunc 57 args).run Tryz.prog W= .ok (.enter 57 args) W:=fun args W=>Stab.run_enter Tryz.func57 (by kernel_rfl) rfl args W
 obtain⟨n,hn⟩:∃n,L.length=n:=⟨_,rfl⟩
 rw[hn] at hx hc ⊢
 have N1:=hid hn
 have HX:=hid hx
 have hbig:n<=9223372036854775807:=by omega
 clear hn hx hc hm
 go_enter Tryz.func87,Tryz.ntmps87
 go_wp2_with fail
 go_loopw [8] (fun j' wr=>∃k:Nat,j'= .int .i64 (k:Int)/\k<=n/\(∀i,i<k->noT (L.getD i 0)=false)/\wr=w) (fun j' _=>n - (intOf j').toNat)
 case atStart=>exact ⟨0,by go_num,Nat.zero_le _,fun i hi=>absurd hi (by omega),rfl⟩
 case round=>
  obtain⟨k,rfl,hk,ht,rfl⟩:=hrel
  have HT:=hid ht
  clear ht
  by_cases hlt:k<n
  ·obtain ⟨g1,p1,rfl,_,hc1,_⟩:=byte_at HX.out (j:=k) (by rw[N1.out];exact hlt)
   have hin1:(0:Int)<=(k:Int):=by omega
   have hin2:(k:Int)<(n:Int):=by omega
   have hw1:IntKind.i64.wrap ((k:Int)+1)=(k:Int)+1:=IntWalk.i64_in _ (by omega)
   obtain⟨u,hu⟩:∃u,L.getD k 0=u:=⟨_,rfl⟩
   rw[hu] at hc1
   have HU:=hid hu
   clear hu
   have HC:=hid (not_any u wr)
   cases hq:noT u with
   | true=>
    rw[hq] at HC
    have HQ:Hid (decide (0<=(k:Int))=L.any noT):=by
     show _=_
     rw[decide_eq_true hin1]
     exact(List.any_eq_true.2 ⟨u,by rw[<- HU.out,List.getD_eq_getElem?_getD,List.getElem?_eq_getElem (by rw[N1.out];exact hlt)];exact List.getElem_mem _,hq⟩).symm
    clear hq
    go_wp2_with fail
    refine HC.out.mono ?_
    rintro e w1 ⟨rfl,rfl⟩
    go_wp2_with fail
    exact bodyPost_ret (v:=.int .i64 (k:Int)) (by simp[results,Tryz.results87,go_sem]) rfl ⟨⟨_,rfl,HQ.out⟩,rfl⟩
   | false=>
    rw[hq] at HC
    have HQ:Hid (∀i,i<k+1->noT (L.getD i 0)=false):=fun i hi=>by
     by_cases e:i=k
     ·subst e;rw[HU.out];exact hq
     ·exact HT.out i (by omega)
    clear hq
    go_wp2_with fail
    refine HC.out.mono ?_
    rintro e w1 ⟨rfl,rfl⟩
    go_wp2_with fail
    go_roundw
    case rel=>exact ⟨k+1,by go_num,hlt,(fun i hi=>HQ.out i hi),by first | rfl | trivial⟩
    case measure=>simp[intOf];omega
  ·obtain rfl:k=n:=by omega
   have HQ:Hid (decide (0<=(-1:Int))=L.any noT):=by
    show _=_
    rw[decide_eq_false (by decide)]
    symm
    rw[List.any_eq_false]
    intro x hx
    obtain⟨i,hi⟩:=List.getElem?_of_mem hx
    have hil:=(List.getElem?_eq_some_iff.1 hi).1
    have:=HT.out i (by rw[<- N1.out];exact hil)
    rw[List.getD_eq_getElem?_getD,hi] at this
    simpa using this
   go_wp2_with fail
   exact bodyPost_ret (v:=.int .i64 (-1)) (by simp[results,Tryz.results87,go_sem]) rfl ⟨⟨_,rfl,HQ.out⟩,rfl⟩
theorem con_any {L:List Int}{v:Value}{w:World}(hx:Row elB w v L):
  Calls Tryz.prog 56 #[v,.func (.func 57) #[] #[]] w fun e w'=>e= .returned (.bool (L.any noT))/\w'=w:=by
 have HC:=hid (idx_any hx)
 generalize L.any noT=q at HC ⊢
 clear hx
 go_enter Tryz.func56,Tryz.ntmps56
 go_wp2_with fail
 refine HC.out.mono ?_
 rintro e w1 ⟨⟨r,rfl,hr⟩,rfl⟩
 have HR:=hid hr
 clear hr
 go_wp2_with fail
 exact bodyPost_ret (v:=.bool (decide (0<=r))) (by simp[results,Tryz.results56,go_sem]) rfl ⟨by rw[HR.out],rfl⟩
theorem stop_ {P:Prop}(h:Hid P):P:=h
theorem clone_any {D:List Int}{v:Value}{w:World}(hx:Row elB w v D)(hl:D.length<=1000000):Calls Tryz.prog 44 #[v] w fun e w'=>(∃v',e= .returned v'/\Own elB w' w.heap.size v' D)/\Below w.heap.size w w':=by
 obtain⟨A,c,rfl,hc,hm⟩:=hx.form
 obtain⟨n,hn⟩:∃n,D.length=n:=⟨_,rfl⟩
 rw[hn] at hx hl ⊢
 rcases A with _ | ad
 ·have hD:D = []:=by
   rcases D with _ | ⟨x,D⟩
   ·rfl
   ·obtain ⟨g,off,h,_⟩:=byte_at hx (j:=0) (by simp)
    cases h
  subst hD
  clear hx hl hn hc hm
  have heq:∀W,(binOp .eql 25 (.slice none n c) (.slice none 0 0)).run Tryz.prog W= .ok (.bool true) W:=fun W=>run_eql_slice_nil W _ _ none n c Tryz.underlying25
  go_enter Tryz.func44,Tryz.ntmps44
  go_wp2_with fail
  exact bodyPost_ret (v:=.slice none 0 0) (by simp[results,Tryz.results44,go_sem]) rfl ⟨⟨_,rfl,own_nil _ _ _⟩,Below.refl _ _⟩
 ·have HX:=hid hx
  have HN:=hid hn
  have HW:=hid ((Below.refl w.heap.size w).alloc (Nat.le_refl _) (.cells #[] 5))
  have heq:∀W,(binOp .eql 25 (.slice (some ad) n c) (.slice none 0 0)).run Tryz.prog W= .ok (.bool false) W:=fun W=>run_eql_slice_nil W _ _ (some ad) n c Tryz.underlying25
  clear hx hn hc hm
  go_enter Tryz.func44,Tryz.ntmps44
  go_wp2_with (at_builtin;refine stop_ ?_)
  refine hid ?_
  refine wp_rowsG elB 25 Tryz.underlying25 _ rfl (.tmp 5) (.tmp 6) rfl w.heap.size _ _ [] D rfl (own_new elB w) rfl (HX.out.keep HW.out) (by rw[HN.out];simp;omega) (by decide) HW.out.size ?_
  intro v1 w1 ho1 hb1 _
  rw[List.nil_append] at ho1
  obtain⟨P,c1,hv⟩:=ho1.form
  rw[HN.out] at hv
  subst hv
  have HO:=hid ho1
  have HB:=hid (HW.out.trans hb1)
  clear ho1 hb1
  go_wp2_with fail
  exact bodyPost_ret (v:=.slice P n c1) (by simp[results,Tryz.results44,go_sem]) rfl ⟨⟨_,rfl,HO.out⟩,HB.out⟩
theorem clonec_any {D:List CtV}{v:Value}{w:World}(hx:Row elP w v D)(hl:D.length<=1000000):Calls Tryz.prog 145 #[v] w fun e w'=>(∃v',e= .returned v'/\Own elP w' w.heap.size v' D)/\Below w.heap.size w w':=by
 obtain⟨A,c,rfl,hc,hm⟩:=hx.form
 obtain⟨n,hn⟩:∃n,D.length=n:=⟨_,rfl⟩
 rw[hn] at hx hl ⊢
 rcases A with _ | ad
 ·have hD:D = []:=by
   rcases D with _ | ⟨x,D⟩
   ·rfl
   ·obtain ⟨g,off,h,_⟩:=ctl_at hx (j:=0) rfl
    cases h
  subst hD
  clear hx hl hn hc hm
  have heq:∀W,(binOp .eql 37 (.slice none n c) (.slice none 0 0)).run Tryz.prog W= .ok (.bool true) W:=fun W=>run_eql_slice_nil W _ _ none n c Tryz.underlying37
  go_enter Tryz.func145,Tryz.ntmps145
  go_wp2_with fail
  exact bodyPost_ret (v:=.slice none 0 0) (by simp[results,Tryz.results145,go_sem]) rfl ⟨⟨_,rfl,own_nil _ _ _⟩,Below.refl _ _⟩
 ·have HX:=hid hx
  have HN:=hid hn
  have HW:=hid ((Below.refl w.heap.size w).alloc (Nat.le_refl _) (.cells #[] 72))
  have heq:∀W,(binOp .eql 37 (.slice (some ad) n c) (.slice none 0 0)).run Tryz.prog W= .ok (.bool false) W:=fun W=>run_eql_slice_nil W _ _ (some ad) n c Tryz.underlying37
  clear hx hn hc hm
  go_enter Tryz.func145,Tryz.ntmps145
  go_wp2_with (at_builtin;refine stop_ ?_)
  refine hid ?_
  refine wp_rowsG elP 37 Tryz.underlying37 _ rfl (.tmp 5) (.tmp 6) rfl w.heap.size _ _ [] D rfl (own_new elP w) rfl (HX.out.keep HW.out) (by rw[HN.out];simp;omega) (by decide) HW.out.size ?_
  intro v1 w1 ho1 hb1 _
  rw[List.nil_append] at ho1
  obtain⟨P,c1,hv⟩:=ho1.form
  rw[HN.out] at hv
  subst hv
  have HO:=hid ho1
  have HB:=hid (HW.out.trans hb1)
  clear ho1 hb1
  go_wp2_with fail
  exact bodyPost_ret (v:=.slice P n c1) (by simp[results,Tryz.results145,go_sem]) rfl ⟨⟨_,rfl,HO.out⟩,HB.out⟩
structure But (g:Nat) (w w':World):Prop where
 os:w'.os=w.os
 tape:w'.tape=w.tape
 output:w'.output=w.output
 size:w.heap.size<=w'.heap.size
 block:∀k,k<w.heap.size->k≠g->w'.heap[k]? = w.heap[k]?
theorem But.bk {g:Nat}{w w':World}{q:Nat}{o:Obj}(h:But g w w')(hx:w.heap[q]? = some o)(hn:q≠g):w'.heap[q]? = some o:=(h.block q (Array.getElem?_eq_some_iff.1 hx).1 hn).trans hx
theorem But.refl (g:Nat)(w:World):But g w w:=⟨rfl,rfl,rfl,Nat.le_refl _,fun _ _ _=>rfl⟩
theorem But.trans {g:Nat}{a b c:World}(h:But g a b)(k:But g b c):But g a c:=
 ⟨k.os.trans h.os,k.tape.trans h.tape,k.output.trans h.output,Nat.le_trans h.size k.size,fun i hi hn=>(k.block i (Nat.lt_of_lt_of_le hi h.size) hn).trans (h.block i hi hn)⟩
theorem But.of_below {g:Nat}{w w':World}(h:Below w.heap.size w w'):But g w w':=⟨h.os,h.tape,h.output,h.size,fun k hk _=>h.block k hk⟩
theorem But.below {g B:Nat}{w w':World}(h:But g w w')(hB:B<=g)(hg:g<w.heap.size):Below B w w':=⟨h.os,h.tape,h.output,h.size,fun k hk=>h.block k (by omega) (by omega)⟩
theorem But.setCell {g:Nat}{a w:World}(h:But g a w)(i:Nat)(u:Value):But g a (w.setCell ⟨g,i,none⟩ u):=
 h.trans ⟨rfl,rfl,rfl,by simp[World.setCell],fun k _ hk=>Below.heap_setCell _ _ _ _ hk⟩
theorem But.drewN {g:Nat}{a w:World}(h:But g a w)(n:Nat):But g a (w.drewN n):=⟨h.os,h.tape,h.output,h.size,h.block⟩
def EndOk (w:World)(B:Nat)(vv:Value)(p:CtV):Prop:=Own elB w B p.2 p.1.fin/\(∀k,p.2.ownBlock=some k->some k≠vv.ownBlock)/\(∀x∈p.1.fin,0<=x/\x<256)/\w64 p.1.op/\w64 p.1.ht/\0<=p.1.ht
def innP (cv:Value):Value:=match cv with
 | .slice (some ⟨g,off,_⟩) n _=>if n=0 then .pointer none else .pointer (some ⟨g,off+(n - 1)*4,none⟩)
 | _=>.pointer none
theorem innP_zero (A:Option Addr)(c:Nat):innP (.slice A 0 c)= .pointer none:=by
 cases A with
 | none=>rfl
 | some a=>obtain ⟨g,o,s⟩:=a;rfl
theorem innP_pos (g n c m:Nat)(h:n=m+1):innP (.slice (some ⟨g,0,none⟩) n c)= .pointer (some ⟨g,m*4,none⟩):=by
 subst h
 show (if m+1=0 then Value.pointer none else Value.pointer (some ⟨g,0+(m+1 - 1)*4,none⟩))=_
 rw[Nat.zero_add,Nat.add_sub_cancel]
 exact if_neg (Nat.succ_ne_zero m)
def drCells (vv cv pv:Value):Obj:=.cells #[vv,cv,pv] 167 (0,0)
structure Dr (w:World) (B D:Nat) (vv cv:Value) (vals:List Int) (l:List CtV):Prop where
 hD:B<=D
 blk:w.heap[D]? = some (drCells vv cv (innP cv))
 vO:Own elB w B vv vals
 vR:∀x∈vals,0<=x/\x<256
 cO:Own elP w B cv l
 ok:∀p∈l,EndOk w B vv p
theorem Dr.lt {w:World}{B D:Nat}{vv cv:Value}{vals:List Int}{l:List CtV}(h:Dr w B D vv cv vals l):D<w.heap.size:=lt_of_heap h.blk
theorem EndOk.keep {w w':World}{B:Nat}{vv:Value}{p:CtV}(h:EndOk w B vv p)(hb:Below w.heap.size w w'):EndOk w' B vv p:=⟨own_keep h.1 hb,h.2⟩
theorem Dr.keep {w w':World}{B D:Nat}{vv cv:Value}{vals:List Int}{l:List CtV}(h:Dr w B D vv cv vals l)(hb:Below w.heap.size w w'):Dr w' B D vv cv vals l:=
 ⟨h.hD,(hb.block D h.lt).trans h.blk,own_keep h.vO hb,h.vR,own_keep h.cO hb,fun p hp=>(h.ok p hp).keep hb⟩
theorem own_notD {w:World}{B D e s n:Nat}{v vv cv pv:Value}{xs:List Value}(h:w.ownsRow B e s v n xs)(hd:w.heap[D]? = some (drCells vv cv pv))(hne:e≠167){k:Nat}(hk:v.ownBlock=some k):k≠D:=by
 intro e1
 subst e1
 obtain⟨cur,h1⟩:=own_type h hk
 rw[hd] at h1
 simp only[drCells,Option.some.injEq,Obj.cells.injEq] at h1
 exact hne h1.2.1.symm
theorem own_setD {w:World}{B D e s n:Nat}{v vv cv pv:Value}{xs:List Value}(h:w.ownsRow B e s v n xs)(hd:w.heap[D]? = some (drCells vv cv pv))(hne:e≠167)(i:Nat)(u:Value):(w.setCell ⟨D,i,none⟩ u).ownsRow B e s v n xs:=
 own_stay h fun k hk=>chg_set w D i u k (World.ownsRow.lt h k hk).2 (by intro e1;exact own_notD h hd hne hk (Option.some.inj e1))
theorem Dr.setV {w:World}{B D:Nat}{vv cv vv':Value}{vals vals':List Int}{l:List CtV}(h:Dr w B D vv cv vals l)(hO:Own elB w B vv' vals')(hR:∀x∈vals',0<=x/\x<256)(hv:vv'.ownBlock=vv.ownBlock):Dr (w.setCell ⟨D,0,none⟩ vv') B D vv' cv vals' l:=
 ⟨h.hD,by rw[drCells,zaE h.blk];rfl,own_setD hO h.blk (by decide) _ _,hR,own_setD h.cO h.blk (by decide) _ _,fun p hp=>⟨own_setD (h.ok p hp).1 h.blk (by decide) _ _,by rw[hv];exact(h.ok p hp).2.1,(h.ok p hp).2.2⟩⟩
theorem dr_cells {w:World}{D:Nat}{vv cv pv:Value}(h:w.heap[D]? = some (drCells vv cv pv)):w.cell? ⟨D,0,none⟩=some vv/\w.cell? ⟨D,1,none⟩=some cv/\w.cell? ⟨D,2,none⟩=some pv/\w.frozen? ⟨D,0,none⟩=false/\w.frozen? ⟨D,1,none⟩=false/\w.frozen? ⟨D,2,none⟩=false:=
 ⟨(zaA h 0).1,(zaA h 1).1,(zaA h 2).1,(zaA h 0).2,(zaA h 1).2,(zaA h 2).2⟩
theorem own_pos {α:Type}{T:El α}{w:World}{B:Nat}{v:Value}{l:List α}(h:Own T w B v l)(h0:l≠[]):∃g c,v= .slice (some ⟨g,0,none⟩) l.length c/\l.length<=c/\g<w.heap.size:=by
 obtain⟨_,⟨hv,hl⟩ | ⟨g,cap,cur,hv,hB,hc,hle,_⟩⟩:=h
 ·exact absurd (List.length_eq_zero_iff.1 hl) h0
 ·exact ⟨g,cap,hv,hle,lt_of_heap hc⟩
theorem own_frozen {α:Type}{T:El α}{w:World}{B g n c:Nat}{l:List α}(h:Own T w B (.slice (some ⟨g,0,none⟩) n c) l)(i:Nat):w.frozen? ⟨g,i,none⟩=false:=by
 obtain⟨cur,hc⟩:=own_type h (k:=g) rfl
 exact(zaA hc i).2
theorem Dr.rowP {w:World}{B D:Nat}{vv cv:Value}{vals:List Int}{l:List CtV}(h:Dr w B D vv cv vals l):Row elP w cv l:=h.cO.row fun p hp=>⟨(h.ok p hp).1.row (h.ok p hp).2.2.1,(h.ok p hp).2.2.2.1,(h.ok p hp).2.2.2.2.1⟩
theorem Dr.rowB {w:World}{B D:Nat}{vv cv:Value}{vals:List Int}{l:List CtV}(h:Dr w B D vv cv vals l):Row elB w vv vals:=h.vO.row h.vR
theorem Dr.inner {w:World}{B D:Nat}{vv cv:Value}{vals:List Int}{l:List CtV}(h:Dr w B D vv cv vals l){p:CtV}(hp:l.getLast? = some p):
  ∃g c q m,cv= .slice (some ⟨g,0,none⟩) l.length c/\l.length<=c/\l.length=m+1/\l[m]? = some p/\q=m*4/\innP cv= .pointer (some ⟨g,q,none⟩)/\g<w.heap.size/\g≠D/\
   w.cell? ⟨g,q,none⟩=some (.int .i64 p.1.op)/\w.cell? ⟨g,q+1,none⟩=some p.2/\w.cell? ⟨g,q+2,none⟩=some (.int .i64 p.1.ht)/\w.cell? ⟨g,q+3,none⟩=some (.bool p.1.dead)/\(∀i,w.frozen? ⟨g,i,none⟩=false)/\EndOk w B vv p:=by
 have h0:l≠[]:=fun e=>by rw[e] at hp;cases hp
 obtain⟨g,c,rfl,hc,hg⟩:=own_pos h.cO h0
 have hl:0<l.length:=List.length_pos_iff.2 h0
 have hm:l[l.length - 1]? = some p:=by rw[<- List.getLast?_eq_getElem?];exact hp
 obtain⟨g',off,e,hg',hC,hO⟩:=h.rowP.at_ hm
 simp only[Option.some.injEq,Addr.mk.injEq,and_true] at e
 obtain⟨rfl,rfl⟩:=e
 have hC':∀i u,(cc p)[i]? = some u->w.cell? ⟨g,(l.length - 1)*4+i,none⟩=some u:=fun i u hu=>by
  have:=hC i u hu
  rw[Nat.zero_add] at this
  exact this
 refine⟨g,c,(l.length - 1)*4,l.length - 1,rfl,hc,by omega,hm,rfl,innP_pos _ _ _ _ (by omega),hg,fun e=>own_notD h.cO h.blk (by decide) (k:=g) rfl e,hC' 0 _ rfl,hC' 1 _ rfl,hC' 2 _ rfl,hC' 3 _ rfl,fun i=>own_frozen h.cO i,h.ok p (List.mem_of_getElem? hm)⟩
theorem Dr.outer {w:World}{B D:Nat}{vv cv:Value}{vals:List Int}{l:List CtV}(h:Dr w B D vv cv vals l)(hp:l = []):innP cv= .pointer none:=by
 obtain⟨P,c,hv⟩:=h.cO.form
 subst hp hv
 exact innP_zero _ _
theorem settle_any {D:Nat}{vv pv:Value}{A:Option Addr}{n c:Nat}{w:World}(hd:w.heap[D]? = some (drCells vv (.slice A n c) pv))(hA:0<n->∃g,A=some ⟨g,0,none⟩)(hc:n<=c)(hn:n<=1000000):
  Calls Tryz.prog 116 #[.pointer (some ⟨D,0,none⟩)] w fun e w'=>e= .returned (.tuple #[])/\w'.heap[D]? = some (drCells vv (.slice A n c) (innP (.slice A n c)))/\But D w w':=by
 obtain⟨c0,c1,c2,f0,f1,f2⟩:=dr_cells hd
 have HD:=hid hd
 rcases Nat.eq_zero_or_pos n with h0 | h0
 ·subst h0
  have e1:=innP_zero A c
  rw[e1]
  clear hd hA e1
  go_enter Tryz.func116,Tryz.ntmps116
  go_wp2_with fail
  exact bodyPost_end (v:=.tuple #[]) (by simp[results,Tryz.results116,go_sem]) rfl ⟨rfl,by rw[drCells,zaE HD.out];rfl,(But.refl _ _).setCell 2 _⟩
 ·obtain ⟨g,rfl⟩:=hA h0
  obtain⟨m,hm⟩:∃m,n=m+1:=⟨n - 1,by omega⟩
  have e1:=innP_pos g n c m hm
  rw[e1]
  have t1:decide ((0:Int)<(n:Int))=true:=decide_eq_true (by omega)
  have t1':decide (0<n)=true:=decide_eq_true h0
  have e2:IntKind.i64.wrap ((n:Int) - 1)=(m:Int):=by rw[IntWalk.i64_in _ (by omega)];omega
  have i1:(0:Int)<=(m:Int):=by omega
  have i2:(m:Int)<(n:Int):=by omega
  clear hd hA e1 hm
  go_enter Tryz.func116,Tryz.ntmps116
  go_wp2_with fail
  exact bodyPost_end (v:=.tuple #[]) (by simp[results,Tryz.results116,go_sem]) rfl ⟨rfl,by rw[drCells,zaE (zaE HD.out _)];rfl,((But.refl _ _).setCell 2 _).setCell 2 _⟩
theorem popV_some {c:Ctl}{vals:List Int}(h:c.ht<vals.length):popV (some c) vals=some (vals.dropLast,vals.getLastD 0):=by
 show (if c.ht<vals.length then _ else _)=_
 rw[if_pos h]
theorem popV_dead {c:Ctl}{vals:List Int}(h:¬ c.ht<vals.length)(hd:c.dead=true):popV (some c) vals=some (vals,0):=by
 show (if c.ht<vals.length then _ else _)=_
 rw[if_neg h,if_pos hd]
theorem popV_no {c:Ctl}{vals:List Int}(h:¬ c.ht<vals.length)(hd:c.dead=false):popV (some c) vals=none:=by
 show (if c.ht<vals.length then _ else _)=_
 rw[if_neg h,if_neg (by rw[hd];decide)]
def PopYes (B D:Nat)(cv:Value)(l:List CtV)(vs:List Int)(v:Int)(w:World)(e:Ending)(w':World):Prop:=∃vv',e= .returned (.tuple #[.int .u8 v,.int .i64 0])/\Dr w' B D vv' cv vs l/\But D w w'
def PopNo (D:Nat)(w:World)(e:Ending)(w':World):Prop:=e= .returned (.tuple #[.int .u8 0,.int .i64 5])/\But D w w'
def PopTold (B D:Nat)(cv:Value)(l:List CtV)(o:Option (List Int×Int))(w:World)(e:Ending)(w':World):Prop:=match o with
 | none=>PopNo D w e w'
 | some (vs,v)=>PopYes B D cv l vs v w e w'
theorem last_map {l:List CtV}{p:CtV}(h:l.getLast? = some p):(l.map (·.1)).getLast? = some p.1:=by rw[List.getLast?_map,h];rfl
theorem pop_any {B D:Nat}{vv cv:Value}{vals:List Int}{l:List CtV}{w:World}(h:Dr w B D vv cv vals l)(hl:vals.length<=1000000):
  Calls Tryz.prog 146 #[.pointer (some ⟨D,0,none⟩)] w (PopTold B D cv l (popV (l.map (·.1)).getLast? vals) w):=by
 obtain⟨c0,c1,c2,f0,f1,f2⟩:=dr_cells h.blk
 have HH:=hid h
 cases hp:l.getLast? with
 | none=>
  have h0:l = []:=List.getLast?_eq_none_iff.1 hp
  rw[h.outer h0] at c2
  subst h0
  show Calls _ _ _ _ (PopNo D w)
  clear h
  go_enter Tryz.func146,Tryz.ntmps146
  go_wp2_with fail
  exact bodyPost_ret (v:=.tuple #[.int .u8 0,.int .i64 5]) (by simp[results,Tryz.results146,go_sem]) rfl ⟨rfl,But.refl _ _⟩
 | some p=>
  rw[last_map hp]
  obtain⟨g,cc_,q,m,rfl,x1,x2,x3,x4,e2,hg,hgD,k0,k1,k2,k3,kf,hE⟩:=h.inner hp
  clear x1 x2 x3 x4
  rw[e2] at c2
  obtain⟨P,cv_,hv⟩:=h.vO.form
  obtain⟨n,hn⟩:∃n,vals.length=n:=⟨_,rfl⟩
  obtain⟨ht,hht⟩:∃ht,p.1.ht=ht:=⟨_,rfl⟩
  rw[hn] at hl hv
  subst hv
  rw[hht] at k2
  by_cases hlt:ht<n
  ·have hnn:0<=ht:=by rw[<- hht];exact hE.2.2.2.2.2
   obtain⟨k,hk⟩:∃k,n=k+1:=⟨n - 1,by omega⟩
   obtain⟨gv,cw,hvp,hcw,hgv⟩:=own_pos h.vO (by intro e;rw[e] at hn;simp at hn;omega)
   injection hvp with e5 e6 e7
   subst e5 e7
   rw[hn] at hcw
   obtain⟨g',off,e8,y1,hc8,y2⟩:=byte_at h.rowB (j:=k) (by omega)
   simp only[Option.some.injEq,Addr.mk.injEq,and_true] at e8
   obtain⟨rfl,rfl⟩:=e8
   clear y1 y2
   rw[Nat.zero_add] at hc8
   have hlast:vals.getLastD 0=vals.getD k 0:=by
    rw[List.getLastD_eq_getLast?,List.getLast?_eq_getElem?,List.getD_eq_getElem?_getD,hn,hk,Nat.add_sub_cancel]
   have hdrop:vals.dropLast=vals.take k:=by rw[List.dropLast_eq_take,hn,hk,Nat.add_sub_cancel]
   rw[popV_some (by rw[hht,hn];exact hlt),hlast,hdrop]
   obtain⟨v,hv⟩:∃v,vals.getD k 0=v:=⟨_,rfl⟩
   rw[hv] at hc8 ⊢
   show Calls _ _ _ _ (PopYes B D _ l (vals.take k) v w)
   have t1:decide (ht<(n:Int))=true:=decide_eq_true hlt
   have e3:IntKind.i64.wrap ((n:Int) - 1)=(k:Int):=by rw[IntWalk.i64_in _ (by omega)];omega
   have i1:(0:Int)<=(k:Int):=by omega
   have i2:(k:Int)<(n:Int):=by omega
   have i3:(k:Int)<=(cv_:Int):=by omega
   have i3':k<=cv_:=by omega
   have HT:=hid (Own.take h.vO k (by omega))
   have HR:=hid (fun x (hx:x∈vals.take k)=>h.vR x (List.mem_of_mem_take hx))
   clear h hlt hE hk hn hcw hlast hdrop hv hht hnn k0 k1 k3 e6
   go_enter Tryz.func146,Tryz.ntmps146
   go_wp2_with fail
   go_quiet (fail)
   have HB:=hid (drewB w nq (Nat.le_refl w.heap.size))
   have HBt:=hid ((But.refl D w).drewN nq)
   have HH2:=hid (HH.out.keep HB.out)
   have HT2:=hid (own_keep HT.out HB.out)
   obtain⟨b0,b1,b2,d0,d1,d2⟩:=dr_cells HH2.out.blk
   have b8:(w.drewN nq).cell? ⟨gv,k,none⟩=some (.int .u8 v):=by rw[HB.out.cell (p:=⟨gv,k,none⟩) hgv];exact hc8
   generalize w.drewN nq=w1 at *
   go_wp2_with fail
   exact bodyPost_ret (v:=.tuple #[.int .u8 v,.int .i64 0]) (by simp[results,Tryz.results146,go_sem]) rfl ⟨_,rfl,HH2.out.setV HT2.out HR.out rfl,HBt.out.setCell 0 _⟩
  ·have t1:decide (ht<(n:Int))=false:=decide_eq_false hlt
   cases hdd:p.1.dead with
   | true=>
    rw[popV_dead (by rw[hht,hn];exact hlt) hdd]
    show Calls _ _ _ _ (PopYes B D _ l vals 0 w)
    rw[hdd] at k3
    clear h hlt hE hdd
    go_enter Tryz.func146,Tryz.ntmps146
    go_wp2_with fail
    go_quiet (fail)
    go_wp2_with fail
    exact bodyPost_ret (v:=.tuple #[.int .u8 0,.int .i64 0]) (by simp[results,Tryz.results146,go_sem]) rfl ⟨_,rfl,HH.out.keep (drewB _ _ (Nat.le_refl _)),(But.refl _ _).drewN _⟩
   | false=>
    rw[popV_no (by rw[hht,hn];exact hlt) hdd]
    show Calls _ _ _ _ (PopNo D w)
    rw[hdd] at k3
    clear h hlt hE hdd
    go_enter Tryz.func146,Tryz.ntmps146
    go_wp2_with fail
    go_quiet (fail)
    go_wp2_with fail
    exact bodyPost_ret (v:=.tuple #[.int .u8 0,.int .i64 5]) (by simp[results,Tryz.results146,go_sem]) rfl ⟨rfl,(But.refl _ _).drewN _⟩
theorem fits_any (v x:Int)(w:World):Calls Tryz.prog 147 #[.int .u8 v,.int .u8 x] w fun e w'=>e= .returned (.bool (fit v x))/\w'=w:=by
 unfold fit
 cases h1:(v == x) <;> cases h2:(v == 0) <;> cases h3:(x == 0)
 all_goals (
  go_enter Tryz.func147,Tryz.ntmps147
  go_wp2_with fail
  first
  | exact bodyPost_ret (v:=.bool true) (by simp[results,Tryz.results147,go_sem]) rfl ⟨rfl,rfl⟩
  | exact bodyPost_ret (v:=.bool false) (by simp[results,Tryz.results147,go_sem]) rfl ⟨rfl,rfl⟩)
def WantYes (B D:Nat)(cv:Value)(l:List CtV)(vs:List Int)(w:World)(e:Ending)(w':World):Prop:=∃vv',e= .returned (.int .i64 0)/\Dr w' B D vv' cv vs l/\But D w w'
def WantTold (B D:Nat)(cv:Value)(l:List CtV)(o:Option (List Int))(w:World)(e:Ending)(w':World):Prop:=match o with
 | none=>e= .returned (.int .i64 5)/\But D w w'
 | some vs=>WantYes B D cv l vs w e w'
theorem take_succ_rev (xs:List Int)(i:Nat)(h:i<xs.length):(xs.take (i+1)).reverse=xs.getD i 0 :: (xs.take i).reverse:=by
 rw[List.take_add_one,List.getElem?_eq_getElem h,List.reverse_append,List.getD_eq_getElem?_getD,List.getElem?_eq_getElem h]
 rfl
theorem popV_len {o:Option Ctl}{vals vs:List Int}{v:Int}(h:popV o vals=some (vs,v)):vs.length<=vals.length:=by
 unfold popV at h
 split at h
 ·cases h
 ·split at h
  ·simp only[Option.some.injEq,Prod.mk.injEq] at h
   rw[<- h.1,List.length_dropLast]
   omega
  ·split at h
   ·simp only[Option.some.injEq,Prod.mk.injEq] at h
    rw[<- h.1]
    exact Nat.le_refl _
   ·cases h
theorem wantV_none {o:Option Ctl}{vals:List Int}{x:Int}{r:List Int}(h:popV o vals=none):wantV o vals (x :: r)=none:=by
 rw[wantV,h]
theorem wantV_some {o:Option Ctl}{vals vs:List Int}{x v:Int}{r:List Int}(h:popV o vals=some (vs,v)):wantV o vals (x :: r)=if fit v x=true then wantV o vs r else none:=by
 rw[wantV,h]
theorem want_any {B D:Nat}{vv cv x:Value}{vals xs:List Int}{l:List CtV}{w:World}(h:Dr w B D vv cv vals l)(hl:vals.length<=1000000)(hx:∀W,But D w W->Row elB W x xs)(hxl:xs.length<=1000000):
  Calls Tryz.prog 114 #[.pointer (some ⟨D,0,none⟩),x] w (WantTold B D cv l (wantV (l.map (·.1)).getLast? vals xs.reverse) w):=by
 have HH:=hid h
 have HX:=hid hx
 obtain⟨o,ho⟩:∃o,(l.map (·.1)).getLast? = o:=⟨_,rfl⟩
 rw[ho]
 have HO:=hid ho
 obtain⟨P,c,rfl,hc,hm⟩:=(hx w (But.refl _ _)).form
 obtain⟨n,hn⟩:∃n,xs.length=n:=⟨_,rfl⟩
 rw[hn] at hxl hc ⊢
 rw[hn] at HX
 have HN:=hid hn
 have HL:=hid hl
 have e0:IntKind.i64.wrap ((n:Int) - 1)=(n:Int) - 1:=IntWalk.i64_in _ (by omega)
 obtain⟨R,hR⟩:∃R,wantV o vals xs.reverse=R:=⟨_,rfl⟩
 rw[hR]
 have HR:=hid hR
 clear h hx ho hn hl hm hR
 go_enter Tryz.func114,Tryz.ntmps114
 go_wp2_with fail
 go_loopw [5] (fun k' wr=>∃ (j:Nat) (v:Int) (vs:List Int) (vj:Value),k'= .int .i64 v/\v+1=(j:Int)/\j<=n/\But D w wr/\Dr wr B D vj cv vs l/\R=wantV o vs (xs.take j).reverse/\vs.length<=1000000) (fun k' _=>(intOf k'+1).toNat)
 case atStart=>exact ⟨n,(n:Int) - 1,vals,vv,rfl,by omega,Nat.le_refl _,But.refl _ _,HH.out,by rw[List.take_of_length_le (by rw[HN.out];exact Nat.le_refl _)];exact HR.out.symm,HL.out⟩
 case round=>
  obtain⟨j,v,vs,vj,rfl,hj,hjn,hb,hd,hr,hvl⟩:=hrel
  have HB:=hid hb
  have HDr:=hid hd
  have HRR:=hid hr
  clear hb hd hr
  rcases j with _ | i
  ·have t1:decide (0<=v)=false:=decide_eq_false (by omega)
   have HQ:Hid (R=some vs):=HRR.out
   clear hj hjn HRR
   go_wp2_with fail
   refine bodyPost_ret (v:=.int .i64 0) (by simp[results,Tryz.results114,go_sem]) rfl ?_
   rw[HQ.out]
   exact⟨vj,rfl,HDr.out,HB.out⟩
  ·obtain rfl:v=(i:Int):=by omega
   have t1:decide (0<=(i:Int))=true:=decide_eq_true (by omega)
   obtain⟨y,hy⟩:∃y,xs.getD i 0=y:=⟨_,rfl⟩
   have hq:=HRR.out
   rw[take_succ_rev xs i (by rw[HN.out];omega),hy] at hq
   have HY:=hid hy
   have HC:=hid (pop_any HDr.out hvl)
   rw[HO.out] at HC
   clear hj hy
   cases hpo:popV o vs with
   | none=>
    rw[wantV_none hpo] at hq
    have HQ:=hid hq
    rw[hpo] at HC
    clear hq hpo
    go_wp2_with fail
    refine HC.out.mono ?_
    rintro e w1 ⟨rfl,hb1⟩
    have HB1:=hid (HB.out.trans hb1)
    clear hb1
    go_wp2_with fail
    refine bodyPost_ret (v:=.int .i64 5) (by simp[results,Tryz.results114,go_sem]) rfl ?_
    rw[HQ.out]
    exact⟨rfl,HB1.out⟩
   | some pr=>
    obtain⟨vs1,u⟩:=pr
    rw[wantV_some hpo] at hq
    have HQ:=hid hq
    have HVL:=hid (Nat.le_trans (popV_len hpo) hvl)
    rw[hpo] at HC
    clear hq hpo
    go_wp2_with fail
    refine HC.out.mono ?_
    rintro e w1 ⟨v1,rfl,hd1,hb1⟩
    have HB1:=hid (HB.out.trans hb1)
    have HD1:=hid hd1
    clear hb1 hd1
    obtain⟨gx,ox,rfl,hgx,hcx,hr1,hr2⟩:=byte_at (HX.out w1 HB1.out) (j:=i) (by rw[HN.out];omega)
    rw[HY.out] at hcx
    have i1:(0:Int)<=(i:Int):=by omega
    have i2:(i:Int)<(n:Int):=by omega
    have e3:IntKind.i64.wrap ((i:Int) - 1)=(i:Int) - 1:=IntWalk.i64_in _ (by omega)
    have HF:=hid (fits_any u y w1)
    clear hr1 hr2 hgx
    go_wp2_with fail
    refine HF.out.mono ?_
    rintro e w2 ⟨rfl,rfl⟩
    cases hf:fit u y with
    | false=>
     have HQ2:Hid (R=none):=by
      show _=_
      rw[HQ.out,hf]
      rfl
     clear hf HF
     go_wp2_with fail
     refine bodyPost_ret (v:=.int .i64 5) (by simp[results,Tryz.results114,go_sem]) rfl ?_
     rw[HQ2.out]
     exact⟨rfl,HB1.out⟩
    | true=>
     have HQ2:Hid (R=wantV o vs1 (xs.take i).reverse):=by
      show _=_
      rw[HQ.out,hf]
      rfl
     clear hf HF
     go_wp2_with fail
     go_roundw
     case rel=>exact ⟨i,(i:Int) - 1,vs1,v1,by go_num,by omega,by omega,HB1.out,HD1.out,HQ2.out,HVL.out⟩
     case measure=>first | (simp[intOf];done) | (simp[intOf];omega)
def Left (w:World)(D:Nat)(s:Stk):Prop:=∃a c pv l,w.heap[D]? = some (drCells a c pv)/\Row elB w a s.vals/\Row elP w c l/\l.map (·.1)=s.cs
theorem Dr.left {w:World}{B D:Nat}{vv cv:Value}{vals:List Int}{l:List CtV}(h:Dr w B D vv cv vals l):Left w D ⟨vals,l.map (·.1)⟩:=⟨_,_,_,l,h.blk,h.rowB,h.rowP,rfl⟩
theorem Dr.grow {w w':World}{B D:Nat}{vv cv vv':Value}{vals vals':List Int}{l:List CtV}(h:Dr w B D vv cv vals l)(hO:Own elB w' B vv' vals')(hR:∀x∈vals',0<=x/\x<256)(hc:Chg w w' vv.ownBlock):Left (w'.setCell ⟨D,0,none⟩ vv') D ⟨vals',l.map (·.1)⟩/\w'.cell? ⟨D,0,none⟩=some vv/\w'.frozen? ⟨D,0,none⟩=false:=by
 have hD:w'.heap[D]? = some (drCells vv cv (innP cv)):=by
  rw[hc D h.lt (fun e=>own_notD h.vO h.blk (by decide) e.symm rfl)]
  exact h.blk
 have hcO:Own elP w' B cv l:=own_stay h.cO fun k hk=>hc k (World.ownsRow.lt h.cO k hk).2 (own_ne h.cO h.vO (by decide) hk)
 refine⟨⟨vv',cv,innP cv,l,by rw[drCells,zaE hD];rfl,Own.row (own_setD hO hD (by decide) _ _) hR,Own.row (own_setD hcO hD (by decide) _ _) fun p hp=>?_,rfl⟩,(zaA hD 0).1,(zaA hD 0).2⟩
 obtain⟨e1,e2,e3,e4,e5,e6⟩:=h.ok p hp
 have e1':Own elB w' B p.2 p.1.fin:=own_stay e1 fun k hk=>hc k (World.ownsRow.lt e1 k hk).2 (e2 k hk)
 exact⟨Own.row (own_setD e1' hD (by decide) _ _) e3,e4,e5⟩
def MadeTold (D:Nat)(e0:Int)(s:Stk)(e:Ending)(w':World):Prop:=e= .returned (.int .i64 e0)/\(e0=0->Left w' D s)
def chosen {α:Type}(b:Bool)(x y:α):α:=match b with
 | true=>x
 | false=>y
theorem push_any {B D:Nat}{vv cv x:Value}{vals xs:List Int}{l:List CtV}{w:World}(h:Dr w B D vv cv vals l)(hx:Row elB w x xs)(hl:vals.length+xs.length<=1000000)(hBw:B<=w.heap.size):
  Calls Tryz.prog 168 #[.pointer (some ⟨D,0,none⟩),x] w fun e w'=>MadeTold D (chosen (xs.any noT) 1 0) ⟨vals ++ xs,l.map (·.1)⟩ e w'/\Below B w w':=by
 obtain⟨c0,c1,c2,f0,f1,f2⟩:=dr_cells h.blk
 have HH:=hid h
 have HX:=hid hx
 have HL:=hid hl
 have HC:=hid (con_any hx)
 obtain⟨P,c,rfl,hc,hm⟩:=hx.form
 cases hq:xs.any noT with
 | true=>
  rw[hq] at HC
  clear h hx hl hc hm hq
  go_enter Tryz.func168,Tryz.ntmps168
  go_wp2_with fail
  refine HC.out.mono ?_
  rintro e w1 ⟨rfl,rfl⟩
  go_wp2_with fail
  exact bodyPost_ret (v:=.int .i64 1) (by simp[results,Tryz.results168,go_sem]) rfl ⟨⟨rfl,fun h=>absurd h (by decide)⟩,Below.refl _ _⟩
 | false=>
  rw[hq] at HC
  obtain⟨Pv,cv_,hv⟩:=h.vO.form
  obtain⟨n,hn⟩:∃n,xs.length=n:=⟨_,rfl⟩
  obtain⟨m,hm2⟩:∃m,vals.length=m:=⟨_,rfl⟩
  rw[hm2] at hv
  rw[hn] at HX HC ⊢
  subst hv
  clear h hx hl hc hm hq hn hm2
  go_enter Tryz.func168,Tryz.ntmps168
  go_wp2_with fail
  refine HC.out.mono ?_
  rintro e w1 ⟨rfl,rfl⟩
  go_wp2_with (at_builtin;refine stop_ ?_)
  refine hid ?_
  refine wp_rowsG elB 25 Tryz.underlying25 _ rfl (.tmp 12) (.tmp 13) rfl B _ _ vals xs rfl HH.out.vO rfl HX.out HL.out (by decide) hBw ?_
  intro v1 w2 ho1 hb1 hch
  obtain⟨HL2,hg0,hf0⟩:=HH.out.grow ho1 (by
   intro y hy
   rcases List.mem_append.1 hy with hy | hy
   ·exact HH.out.vR y hy
   ·exact HX.out.2 y hy) hch
  have HLL:=hid HL2
  have HB:=hid hb1
  obtain⟨P1,c1_,hv1⟩:=ho1.form
  obtain⟨n1,hn1⟩:∃n,(vals ++ xs).length=n:=⟨_,rfl⟩
  rw[hn1] at hv1
  subst hv1
  clear HL2 ho1 hb1 hch hn1
  go_wp2_with fail
  refine bodyPost_ret (v:=.int .i64 0) (by simp[results,Tryz.results168,go_sem]) rfl ⟨⟨rfl,fun _=>HLL.out⟩,HB.out.setCell HH.out.hD _⟩
end Go.Proofs.YtlappkflnlbfcaaGreatDoor.Stk
end
