/- InsPSane, InsTold, InsPTabs, InsFrame, InsRow, InsStab. -/
import Derived.Test.YtlappkflnlbfcaaGreatDoorPkInsSaneA
import Derived.Test.YtlappkflnlbfcaaGreatDoorPkInsSane
import Derived.Test.YtlappkflnlbfcaaGreatDoorPkLebTwo
import Derived.Test.YtlappkflnlbfcaaGreatDoorPkStabAll
import Derived.Test.YtlappkflnlbfcaaGreatDoorPkInsPSame
import Derived.Lib.AppendZerosOnto
import Derived.Lib.SliceRun
import Derived.Test.YtlappkflnlbfcaaGreatDoorRows
import Derived.ProofKit
import Derived.Lay
import Derived.LaidOnce
import Derived.OpenShut
import Derived.ShutString
import Derived.ChangeOld
import Derived.Lib.SmallJoins
import Derived.Deep.Slices
section
namespace Go.Proofs.YtlappkflnlbfcaaGreatDoor.Ins
open Lib (hid)
open Go.RowKit Ints Typ
set_option maxRecDepth 100000
set_option maxHeartbeats 1000000
set_option linter.unusedVariables false
theorem isres_core (a:Int)(w:World)(b1 b2 b3:Bool)(h1:(a == 0)=b1)(h2:(a == 127)=b2)(h3:(a == 126)=b3):Calls Tryz.prog 88 #[.int .i64 a] w fun en w'=>en= .returned (.bool (b1 || b2 || b3))/\w=w':=by
 cases b1 with
 | true=>
  clear h2 h3
  go_enter Tryz.func88,Tryz.ntmps88
  go_wp2_with fail
  refine bodyPost_ret (v:=.bool true) (by simp[results,Tryz.results88,go_sem]) rfl ⟨by simp,rfl⟩
 | false=>
  cases b2 with
  | true=>
   clear h3
   go_enter Tryz.func88,Tryz.ntmps88
   go_wp2_with fail
   refine bodyPost_ret (v:=.bool true) (by simp[results,Tryz.results88,go_sem]) rfl ⟨by simp,rfl⟩
  | false=>
   go_enter Tryz.func88,Tryz.ntmps88
   go_wp2_with fail
   refine bodyPost_ret (v:=.bool b3) (by simp[results,Tryz.results88,go_sem]) rfl ⟨by simp,rfl⟩
theorem isnum_core (a:Int)(w:World)(b1 b2:Bool)(h1:decide (0<=a)=b1)(h2:decide (a<=4294967295)=b2):Calls Tryz.prog 90 #[.int .i64 a] w fun en w'=>en= .returned (.bool (b1 && b2))/\w=w':=by
 cases b1 with
 | false=>
  clear h2
  go_enter Tryz.func90,Tryz.ntmps90
  go_wp2_with fail
  refine bodyPost_ret (v:=.bool false) (by simp[results,Tryz.results90,go_sem]) rfl ⟨by simp,rfl⟩
 | true=>
  go_enter Tryz.func90,Tryz.ntmps90
  go_wp2_with fail
  refine bodyPost_ret (v:=.bool b2) (by simp[results,Tryz.results90,go_sem]) rfl ⟨by simp,rfl⟩
theorem isnum_any (a:Int)(w:World):Calls Tryz.prog 90 #[.int .i64 a] w fun en w'=>en= .returned (.bool (okN a))/\w=w':=isnum_core a w _ _ rfl rfl
theorem labs_long (P:Option Addr)(n c:Nat)(w:World)(h:decide ((64:Int)<(n:Int))=true):Calls Tryz.prog 91 #[.slice P n c] w fun en w'=>en= .returned (.bool false)/\w=w':=by
 go_enter Tryz.func91,Tryz.ntmps91
 go_wp2_with fail
 refine bodyPost_ret (v:=.bool false) (by simp[results,Tryz.results91,go_sem]) rfl ⟨rfl,rfl⟩
theorem all_takeP {l:List Int}{k:Nat}(h:(l.take k).all okN=true)(hk:k<l.length)(hq:okN (l.getD k 0)=true):(l.take (k+1)).all okN=true:=by
 have e:l.getD k 0=l[k]:=by rw[List.getD_eq_getElem?_getD,List.getElem?_eq_getElem hk];rfl
 rw[e] at hq
 rw[List.take_succ_eq_append_getElem hk,List.all_append,h]
 simp[hq]
theorem not_all {l:List Int}{k:Nat}(hk:k<l.length)(hq:okN (l.getD k 0)=false):l.all okN=false:=by
 have e:l.getD k 0=l[k]:=by rw[List.getD_eq_getElem?_getD,List.getElem?_eq_getElem hk];rfl
 rw[List.all_eq_false]
 exact⟨l[k],List.getElem_mem hk,by rw[<- e,hq];simp⟩
theorem labs_loop (l:List Int)(P:Option Addr)(n c:Nat)(w:World)(hn:l.length=n)(h:decide ((64:Int)<(n:Int))=false)(hx:SlI w (.slice P n c) l):Calls Tryz.prog 91 #[.slice P n c] w fun en w'=>en= .returned (.bool (l.all okN))/\w=w':=by
 have N1:=hid hn
 have HX:=hid hx
 have hbig:n<=64:=by have:=h;simp at this;omega
 clear hn hx
 go_enter Tryz.func91,Tryz.ntmps91
 go_wp2_with fail
 go_loopw [10] (fun j' wr=>∃k:Nat,j'= .int .i64 (k:Int)/\k<=n/\(l.take k).all okN=true/\w=wr) (fun j' _=>n - (intOf j').toNat)
 case atStart=>exact ⟨0,rfl,Nat.zero_le _,rfl,rfl⟩
 case round=>
  obtain⟨k,rfl,hk,ht,rfl⟩:=hrel
  have HT:=hid ht
  clear ht
  by_cases hlt:k<n
  ·obtain ⟨g1,p1,rfl,hc1⟩:=HX.out.at_ (j:=k) (by rw[N1.out];exact hlt)
   have hin1:(0:Int)<=(k:Int):=by omega
   have hin2:(k:Int)<(n:Int):=by omega
   obtain⟨u,hu⟩:∃u,l.getD k 0=u:=⟨_,rfl⟩
   rw[hu] at hc1
   have HU:=hid hu
   clear hu
   cases hq:okN u with
   | false=>
    have HQ:=hid (not_all (l:=l) (k:=k) (by rw[N1.out];exact hlt) (by rw[HU.out];exact hq))
    have HC:Hid (Calls Tryz.prog 90 #[.int .i64 u] w fun en w'=>en= .returned (.bool false)/\w=w'):=by have:=isnum_any u w;rw[hq] at this;exact this
    clear hq
    go_wp2_with fail
    refine HC.out.mono ?_
    rintro en w1 ⟨rfl,rfl⟩
    go_wp2_with fail
    rw[HQ.out]
    exact bodyPost_ret (v:=.bool false) (by simp[results,Tryz.results91,go_sem]) rfl ⟨rfl,rfl⟩
   | true=>
    have HQ:=hid (all_takeP HT.out (by rw[N1.out];exact hlt) (by rw[HU.out];exact hq))
    have HC:Hid (Calls Tryz.prog 90 #[.int .i64 u] w fun en w'=>en= .returned (.bool true)/\w=w'):=by have:=isnum_any u w;rw[hq] at this;exact this
    clear hq
    go_wp2_with fail
    refine HC.out.mono ?_
    rintro en w1 ⟨rfl,rfl⟩
    go_wp2_with fail
    go_roundw
    case rel=>exact ⟨k+1,by go_num,hlt,HQ.out,trivial⟩
    case measure=>simp[intOf];omega
  ·obtain rfl:k=n:=by omega
   have HQ:Hid (l.all okN=true):=by
    have h1:=HT.out
    rw[List.take_of_length_le (by rw[N1.out];exact Nat.le_refl _)] at h1
    exact h1
   go_wp2_with fail
   rw[HQ.out]
   exact bodyPost_ret (v:=.bool true) (by simp[results,Tryz.results91,go_sem]) rfl ⟨rfl,rfl⟩
theorem labs_any {l:List Int}{P:Option Addr}{n c:Nat}{w:World}(hx:SlI w (.slice P n c) l):Calls Tryz.prog 91 #[.slice P n c] w fun en w'=>en= .returned (.bool (l.all okN && decide ((l.length:Int)<=64)))/\w=w':=by
 obtain⟨_,_,he,_⟩:=id hx
 have hn:l.length=n:=by injection he with _ h _;exact h.symm
 by_cases h:(64:Int)<(n:Int)
 ·rw[hn,decide_eq_false (by omega:¬ (n:Int)<=64),Bool.and_false]
  exact labs_long P n c w (decide_eq_true h)
 ·rw[hn,decide_eq_true (by omega:(n:Int)<=64),Bool.and_true]
  exact labs_loop l P n c w hn (decide_eq_false h) hx
theorem smI_kept (x:Ins)(A B K:Int)(L:List Int):smI x ⟨x.op,A,B,K,L⟩=decide (x.A=A/\x.B=B/\x.K=K/\x.L=L):=by
 unfold smI
 simp
def saneK (k A B K:Int)(L:List Int):Bool:=
 if (k≠4/\0<L.length)\/(k≠6/\B≠0)\/(k≠8/\k≠9/\K≠0) then false
 else if k=1\/k=7\/k=9 then A == 0
 else if k=2 then A == 0 || A == 126 || A == 127
 else if k=3\/k=5 then okN A
 else if k=4 then okN A && L.all okN && decide ((L.length:Int)<=64)
 else if k=6 then okN A && okN B
 else if k=8 then A == 0 && decide (K<4294967296)
 else false
theorem saneI_eq (x:Ins):saneI x=saneK (kd x.op) x.A x.B x.K x.L:=rfl
theorem saneK_0 (A B K:Int)(L:List Int):saneK 0 A B K L=false:=by unfold saneK;split <;> simp
theorem saneK_1 (A B K:Int)(L:List Int):saneK 1 A B K L=decide (A=0/\B=0/\K=0/\L = []):=by
 cases L <;> by_cases hA:A=0 <;> by_cases hB:B=0 <;> by_cases hK:K=0 <;> simp[saneK,hA,hB,hK]
theorem saneK_7 (A B K:Int)(L:List Int):saneK 7 A B K L=decide (A=0/\B=0/\K=0/\L = []):=by
 cases L <;> by_cases hA:A=0 <;> by_cases hB:B=0 <;> by_cases hK:K=0 <;> simp[saneK,hA,hB,hK]
theorem saneK_2 (A B K:Int)(L:List Int):saneK 2 A B K L=((A == 0 || A == 127 || A == 126) && decide (A=A/\B=0/\K=0/\L = [])):=by
 have e:(A == 0 || A == 126 || A == 127)=(A == 0 || A == 127 || A == 126):=Bool.or_right_comm _ _ _
 cases L <;> by_cases hB:B=0 <;> by_cases hK:K=0 <;> simp[saneK,hB,hK,e]
theorem saneK_3 (A B K:Int)(L:List Int):saneK 3 A B K L=(okN A && decide (A=A/\B=0/\K=0/\L = [])):=by
 cases L <;> by_cases hB:B=0 <;> by_cases hK:K=0 <;> simp[saneK,hB,hK]
theorem saneK_5 (A B K:Int)(L:List Int):saneK 5 A B K L=(okN A && decide (A=A/\B=0/\K=0/\L = [])):=by
 cases L <;> by_cases hB:B=0 <;> by_cases hK:K=0 <;> simp[saneK,hB,hK]
theorem saneK_4 (A B K:Int)(L:List Int):saneK 4 A B K L=((L.all okN && decide ((L.length:Int)<=64)) && okN A && decide (A=A/\B=0/\K=0/\L=L)):=by
 unfold saneK
 generalize L.all okN=p
 generalize decide ((L.length:Int)<=64)=q
 generalize okN A=r
 by_cases hB:B=0 <;> by_cases hK:K=0 <;> cases p <;> cases q <;> cases r <;> simp[hB,hK]
theorem saneK_6 (A B K:Int)(L:List Int):saneK 6 A B K L=(okN A && okN B && decide (A=A/\B=B/\K=0/\L = [])):=by
 cases L <;> by_cases hK:K=0 <;> simp[saneK,hK]
theorem saneK_8 (A B K:Int)(L:List Int):saneK 8 A B K L=(fitT 127 K && decide (A=0/\B=0/\K=K/\L = [])):=by
 cases L <;> by_cases hA:A=0 <;> by_cases hB:B=0 <;> simp[saneK,fitT,hA,hB]
theorem saneK_9 (A B K:Int)(L:List Int):saneK 9 A B K L=(fitT 126 K && decide (A=0/\B=0/\K=K/\L = [])):=by
 cases L <;> by_cases hA:A=0 <;> by_cases hB:B=0 <;> simp[saneK,fitT,hA,hB]
theorem psane_any {x:Ins}{o:Value}{w:World}(hx:SlI w o x.L)(hu:u64R x.K)(hT:KTab w):Calls Tryz.prog 58 #[iv x o] w fun en w'=>en= .returned (.bool (saneI x))/\Below w.heap.size w w':=by
 obtain⟨P,c,ho,_⟩:=id hx
 subst ho
 have hr:=kd_range x.op
 have hK:∀k:Int,kd x.op=k->∀W,Below w.heap.size w W->Calls Tryz.prog 61 #[.int .i64 x.op] W fun en w'=>en= .returned (.int .i64 k)/\Below W.heap.size W w':=fun k hk W hW=>by
  have:=kind_told x.op W (hT.keep hW)
  unfold KdTold at this
  rwa [hk] at this
 have hS:∀ (A B K:Int) (L:List Int) (p:Value),(∀W,Below w.heap.size w W->SlI W p L)->∀W,Below w.heap.size w W->Calls Tryz.prog 89 #[.agg #[.int .i64 x.op,.int .i64 x.A,.int .i64 x.B,.int .u64 x.K,.slice P x.L.length c],.agg #[.int .i64 x.op,.int .i64 A,.int .i64 B,.int .u64 K,p]] W fun en w'=>en= .returned (.bool (smI x ⟨x.op,A,B,K,L⟩))/\Below W.heap.size W w':=fun A B K L p hp W hW=>psame_any (y:=⟨x.op,A,B,K,L⟩) (hx.keep hW) (hp W hW)
 have hN:=fun W (_:Below w.heap.size w W)=>SlI.nil W
 have hA:∀v W,Below w.heap.size w W->Calls Tryz.prog 90 #[.int .i64 v] W fun en w'=>en= .returned (.bool (okN v))/\Below W.heap.size W w':=fun v W _=>(isnum_any v W).mono fun _ _ ⟨k1,k2⟩=>⟨k1,k2 ▸ Below.refl _ _⟩
 have hF:∀t W,Below w.heap.size w W->Calls Tryz.prog 92 #[.int .u8 t,.int .u64 x.K] W fun en w'=>en= .returned (.bool (fitT t x.K))/\Below W.heap.size W w':=fun t W _=>(fits_any t x.K W hu).mono fun _ _ ⟨k1,k2⟩=>⟨k1,k2 ▸ Below.refl _ _⟩
 unfold iv
 have hk:kd x.op=0\/kd x.op=1\/kd x.op=2\/kd x.op=3\/kd x.op=4\/kd x.op=5\/kd x.op=6\/kd x.op=7\/kd x.op=8\/kd x.op=9:=by omega
 rcases hk with hk | hk | hk | hk | hk | hk | hk | hk | hk | hk
 ·have e1:saneI x=false:=by rw[saneI_eq,hk,saneK_0]
  rw[e1]
  exact psane_0 _ _ _ _ P _ c w false (hK 0 hk)
 ·have e1:saneI x=smI x ⟨x.op,0,0,0,[]⟩:=by rw[saneI_eq,hk,smI_kept,saneK_1]
  rw[e1]
  exact psane_1 _ _ _ _ P _ c w _ (hK 1 hk) (hS _ _ _ _ _ hN)
 ·have e1:saneI x=((x.A == 0 || x.A == 127 || x.A == 126) && smI x ⟨x.op,x.A,0,0,[]⟩):=by rw[saneI_eq,hk,smI_kept,saneK_2]
  rw[e1]
  exact psane_2 _ _ _ _ P _ c w _ _ (hK 2 hk) (fun W _=>(isres_core x.A W _ _ _ rfl rfl rfl).mono fun _ _ ⟨k1,k2⟩=>⟨k1,k2 ▸ Below.refl _ _⟩) (hS _ _ _ _ _ hN)
 ·have e1:saneI x=(okN x.A && smI x ⟨x.op,x.A,0,0,[]⟩):=by rw[saneI_eq,hk,smI_kept,saneK_3]
  rw[e1]
  exact psane_3 _ _ _ _ P _ c w _ _ (hK 3 hk) (hA _) (hS _ _ _ _ _ hN)
 ·have e1:saneI x=((x.L.all okN && decide ((x.L.length:Int)<=64)) && okN x.A && smI x ⟨x.op,x.A,0,0,x.L⟩):=by rw[saneI_eq,hk,smI_kept,saneK_4]
  rw[e1]
  exact psane_4 _ _ _ _ P _ c w _ _ _ (hK 4 hk) (fun W hW=>(labs_any (hx.keep hW)).mono fun _ _ ⟨k1,k2⟩=>⟨k1,k2 ▸ Below.refl _ _⟩) (hA _) (hS _ _ _ _ _ fun W hW=>hx.keep hW)
 ·have e1:saneI x=(okN x.A && smI x ⟨x.op,x.A,0,0,[]⟩):=by rw[saneI_eq,hk,smI_kept,saneK_5]
  rw[e1]
  exact psane_5 _ _ _ _ P _ c w _ _ (hK 5 hk) (hA _) (hS _ _ _ _ _ hN)
 ·have e1:saneI x=(okN x.A && okN x.B && smI x ⟨x.op,x.A,x.B,0,[]⟩):=by rw[saneI_eq,hk,smI_kept,saneK_6]
  rw[e1]
  exact psane_6 _ _ _ _ P _ c w _ _ _ (hK 6 hk) (hA _) (hA _) (hS _ _ _ _ _ hN)
 ·have e1:saneI x=smI x ⟨x.op,0,0,0,[]⟩:=by rw[saneI_eq,hk,smI_kept,saneK_7]
  rw[e1]
  exact psane_7 _ _ _ _ P _ c w _ (hK 7 hk) (hS _ _ _ _ _ hN)
 ·have e1:saneI x=(fitT 127 x.K && smI x ⟨x.op,0,0,x.K,[]⟩):=by rw[saneI_eq,hk,smI_kept,saneK_8]
  rw[e1]
  exact psane_8 _ _ _ _ P _ c w _ _ (hK 8 hk) (hF _) (hS _ _ _ _ _ hN)
 ·have e1:saneI x=(fitT 126 x.K && smI x ⟨x.op,0,0,x.K,[]⟩):=by rw[saneI_eq,hk,smI_kept,saneK_9]
  rw[e1]
  exact psane_9 _ _ _ _ P _ c w _ _ (hK 9 hk) (hF _) (hS _ _ _ _ _ hN)
end Go.Proofs.YtlappkflnlbfcaaGreatDoor.Ins
end
section
namespace Go.Proofs.YtlappkflnlbfcaaGreatDoor.Ins
open Lib (hid)
open Go.RowKit Ints Typ Leb
set_option maxRecDepth 100000
set_option maxHeartbeats 1000000
set_option linter.unusedVariables false
theorem came_slI {w:World}{a:Option Addr}{len cap:Nat}{zs:List Int}(h:Leb.Came .i64 w a len cap zs):SlI w (.slice a len cap) (zs.take len):=by
 obtain⟨h1,h2,h3,h4,h5⟩:=came_parts h
 refine⟨a,cap,by rw[h1],by omega,h3,fun h0=>?_⟩
 obtain⟨g,off,e,hg,hc⟩:=h4 h0
 exact⟨g,off,e,hg,fun j hj=>hc j (by omega)⟩
theorem u64R_of {x:Int}(h:(Lit.int .u64 x).wf=true):u64R x:=by simpa [Lit.wf,IntKind.min,IntKind.max,IntKind.signed,IntKind.bits,u64R] using h
end Go.Proofs.YtlappkflnlbfcaaGreatDoor.Ins
end
section
namespace Go.Proofs.YtlappkflnlbfcaaGreatDoor.Ins
open Lib (hid)
open Go.ChangeShapes Go.WideShapes Go.ChangeAt Go.RowKit
set_option maxRecDepth 100000
set_option linter.unusedVariables false
def laidKA : List (String × DataW Unit) := [("avocet/instr.kinds", Rows.laid_avocet_instr_kinds), ("avocet/instr.accesses", Rows.laid_avocet_instr_accesses)]
theorem kinds_data:(Rows.laid_avocet_instr_kinds:DataW Unit)= .agg ((List.range 174).map fun r:Nat=>.lit (.int .u8 (kd (r:Int)))):=by kernel_rfl
theorem cell_lt {w:World}{a:Addr}{v:Value}(h:w.cell? a=some v):a.block<w.heap.size:=by
 unfold World.cell? at h
 by_cases hlt:a.block<w.heap.size
 ·exact hlt
 ·rw[Array.getElem?_eq_none (by omega)] at h
  simp at h
theorem ktab_core {W : World} {g t : Nat} {cs : Array Value} {fuel : Nat} {p : List MemPlace} (hg : Tryz.prog.globalNamed "avocet/instr.kinds" = some g) (ht : (Tryz.prog.globals[g]?).map (·.type) = some t) (hv : W.var? Tryz.prog "avocet/instr.kinds" = some cs)
  (hd:DataW.trod (fun _=>()) Tryz.prog W 0 (fun _=>true) false fuel t cs.toList=some (Rows.laid_avocet_instr_kinds,p)):KTab W:=by
 obtain rfl := Option.some.inj ((show Tryz.prog.globalNamed "avocet/instr.kinds" = some 0 by kernel_rfl).symm.trans hg)
 obtain rfl:=Option.some.inj ((show (Tryz.prog.globals[0]?).map (·.type)=some 150 by kernel_rfl).symm.trans ht)
 obtain⟨xs,m,_,ex,_,hl,hel⟩:=DataW.trod_array Tryz.underlying150 hd
 have c5:Tryz.prog.cellsOf 5=1:=by kernel_rfl
 have key:∀r:Nat,r<174->W.cell? ⟨0,r,none⟩=some (.int .u8 (kd (r:Int))):=by
  intro r hr
  have hE:=hel r hr
  rw[c5,Nat.mul_one,List.getElem?_eq_getElem (by omega)] at hE
  obtain⟨z,e1,e2,_⟩:=DataW.trod_int Tryz.underlying5 hE
  rw[kinds_data] at ex
  have e3:(xs.map (·.1))=(List.range 174).map fun r:Nat=>(.lit (.int .u8 (kd (r:Int))):DataW Unit):=(DataW.agg.inj (Prod.mk.inj ex).1).symm
  have e4:(xs.map (·.1))[r]? = ((List.range 174).map fun r:Nat=>(DataW.lit (.int .u8 (kd (r:Int))):DataW Unit))[r]?:=by rw[e3]
  rw[List.getElem?_map,List.getElem?_map,List.getElem?_eq_getElem (by omega:r<xs.length),List.getElem?_range hr,e2] at e4
  have hz:z=kd (r:Int):=by simpa only[Option.map_some,Option.some.injEq,DataW.lit.injEq,Lit.int.injEq,true_and] using e4
  rw[World.var?_cell hg hv r,<- hz]
  have:cs.toList[r]? = some (.int .u8 z):=by
   have h0:((cs.toList.drop r).take 1)[0]? = some (.int .u8 z):=by rw[e1];rfl
   simpa using h0
  simpa using this
 exact⟨cell_lt (key 0 (by decide)),key⟩
theorem ktab_of_laidKA {W:World}(h:laidMetH Tryz.prog laidKA W):KTab W:=by
 rw[MakeChecks.laidMetH_plain _ _ _ (by kernel_rfl)] at h
 obtain⟨ps,⟨g,t,cs,fuel,p,q,hg,ht,hv,hd,_,_⟩,_,_⟩:=h
 exact ktab_core hg ht hv hd
theorem accs_data:(Rows.laid_avocet_instr_accesses:DataW Unit)= .agg ((List.range 23).map fun r:Nat=>.agg [.lit (.int .u8 (ax ((r:Int)+40)).1),.lit (.int .i64 (ax ((r:Int)+40)).2.1),.lit (.bool (ax ((r:Int)+40)).2.2.1),.lit (.bool (ax ((r:Int)+40)).2.2.2)]):=by kernel_rfl
theorem pick1 {L:List Value}{a i:Nat}{v:Value}(hi:i<4)(h:(((L.drop a).take 4).drop i).take 1 = [v]):L[a+i]? = some v:=by
 have h0:((((L.drop a).take 4).drop i).take 1)[0]? = some v:=by rw[h];rfl
 simpa [List.getElem?_take,List.getElem?_drop,hi] using h0
theorem atab_core {W : World} {g t : Nat} {cs : Array Value} {fuel : Nat} {p : List MemPlace} (hg : Tryz.prog.globalNamed "avocet/instr.accesses" = some g) (ht : (Tryz.prog.globals[g]?).map (·.type) = some t) (hv : W.var? Tryz.prog "avocet/instr.accesses" = some cs)
  (hd:DataW.trod (fun _=>()) Tryz.prog W 0 (fun _=>true) false fuel t cs.toList=some (Rows.laid_avocet_instr_accesses,p)):ATab W:=by
 obtain rfl := Option.some.inj ((show Tryz.prog.globalNamed "avocet/instr.accesses" = some 1 by kernel_rfl).symm.trans hg)
 obtain rfl:=Option.some.inj ((show (Tryz.prog.globals[1]?).map (·.type)=some 200 by kernel_rfl).symm.trans ht)
 obtain⟨xs,m,_,ex,_,hl,hel⟩:=DataW.trod_array Tryz.underlying200 hd
 have c5:Tryz.prog.cellsOf 199=4:=by kernel_rfl
 have b1:Tryz.prog.cellsOf 5=1:=by kernel_rfl
 have b2:Tryz.prog.cellsOf 3=1:=by kernel_rfl
 have b3:Tryz.prog.cellsOf 4=1:=by kernel_rfl
 have key:∀r:Nat,r<23->
   W.cell? ⟨1,r*4,none⟩=some (.int .u8 (ax ((r:Int)+40)).1)/\W.cell? ⟨1,r*4+1,none⟩=some (.int .i64 (ax ((r:Int)+40)).2.1)/\
   W.cell? ⟨1,r*4+2,none⟩=some (.bool (ax ((r:Int)+40)).2.2.1)/\W.cell? ⟨1,r*4+3,none⟩=some (.bool (ax ((r:Int)+40)).2.2.2):=by
  intro r hr
  have hE:=hel r hr
  rw[c5,List.getElem?_eq_getElem (by omega)] at hE
  obtain⟨ys,n,_,e2,_,hlen,hf⟩:=DataW.trod_struct Tryz.underlying199 hE
  rw[accs_data] at ex
  have e3:(xs.map (·.1))=(List.range 23).map fun r:Nat=>(.agg [.lit (.int .u8 (ax ((r:Int)+40)).1),.lit (.int .i64 (ax ((r:Int)+40)).2.1),.lit (.bool (ax ((r:Int)+40)).2.2.1),.lit (.bool (ax ((r:Int)+40)).2.2.2)]:DataW Unit):=(DataW.agg.inj (Prod.mk.inj ex).1).symm
  have e4:(xs.map (·.1))[r]? = ((List.range 23).map fun r:Nat=>(.agg [.lit (.int .u8 (ax ((r:Int)+40)).1),.lit (.int .i64 (ax ((r:Int)+40)).2.1),.lit (.bool (ax ((r:Int)+40)).2.2.1),.lit (.bool (ax ((r:Int)+40)).2.2.2)]:DataW Unit))[r]?:=by rw[e3]
  rw[List.getElem?_map,List.getElem?_map,List.getElem?_eq_getElem (by omega:r<xs.length),List.getElem?_range hr] at e4
  simp only[Option.map_some,Option.some.injEq] at e4
  rw[e2] at e4
  generalize ax ((r:Int)+40)=q at *
  have hc:∀i,W.cell? ⟨1,r*4+i,none⟩=cs[r*4+i]?:=fun i=>World.var?_cell hg hv (r*4+i)
  have h0:DataW.trod (fun _=>()) Tryz.prog W 0 (fun _=>true) false n 5 ((((cs.toList.drop (r*4)).take 4).drop 0).take (Tryz.prog.cellsOf 5))=ys[0]?:=hf 0 _ rfl
  have h1:DataW.trod (fun _=>()) Tryz.prog W 0 (fun _=>true) false n 3 ((((cs.toList.drop (r*4)).take 4).drop 1).take (Tryz.prog.cellsOf 3))=ys[1]?:=hf 1 _ rfl
  have h2:DataW.trod (fun _=>()) Tryz.prog W 0 (fun _=>true) false n 4 ((((cs.toList.drop (r*4)).take 4).drop 2).take (Tryz.prog.cellsOf 4))=ys[2]?:=hf 2 _ rfl
  have h3:DataW.trod (fun _=>()) Tryz.prog W 0 (fun _=>true) false n 4 ((((cs.toList.drop (r*4)).take 4).drop 3).take (Tryz.prog.cellsOf 4))=ys[3]?:=hf 3 _ rfl
  rw[b1] at h0
  rw[b2] at h1
  rw[b3] at h2 h3
  match ys,hlen with
  | [y0,y1,y2,y3],_=>
   simp only[List.map_cons,List.map_nil,DataW.agg.injEq,List.cons.injEq,and_true] at e4
   obtain⟨k0,k1,k2,k3⟩:=e4
   obtain⟨z0,f0,g0,_⟩:=DataW.trod_int Tryz.underlying5 (x:=y0) (by rw[h0];rfl)
   obtain⟨z1,f1,g1,_⟩:=DataW.trod_int Tryz.underlying3 (x:=y1) (by rw[h1];rfl)
   obtain⟨z2,f2,g2⟩:=DataW.trod_bool Tryz.underlying4 (x:=y2) (by rw[h2];rfl)
   obtain⟨z3,f3,g3⟩:=DataW.trod_bool Tryz.underlying4 (x:=y3) (by rw[h3];rfl)
   rw[g0] at k0
   rw[g1] at k1
   rw[g2] at k2
   rw[g3] at k3
   have q0:z0=q.1:=by simpa using k0
   have q1:z1=q.2.1:=by simpa using k1
   have q2:z2=q.2.2.1:=by simpa using k2
   have q3:z3=q.2.2.2:=by simpa using k3
   have p0:=pick1 (by decide) f0
   have p1:=pick1 (by decide) f1
   have p2:=pick1 (by decide) f2
   have p3:=pick1 (by decide) f3
   rw[Array.getElem?_toList] at p0 p1 p2 p3
   have c0:=hc 0
   have c1:=hc 1
   have c2:=hc 2
   have c3:=hc 3
   rw[p0,q0] at c0
   rw[p1,q1] at c1
   rw[p2,q2] at c2
   rw[p3,q3] at c3
   exact⟨c0,c1,c2,c3⟩
 exact⟨cell_lt (key 0 (by decide)).1,key⟩
theorem atab_of_laidKA {W:World}(h:laidMetH Tryz.prog laidKA W):ATab W:=by
 rw[MakeChecks.laidMetH_plain _ _ _ (by kernel_rfl)] at h
 obtain⟨ps,⟨g,t,cs,fuel,p,q,hg,ht,hv,hd,⟨g2,t2,cs2,fuel2,p2,q2,hg2,ht2,hv2,hd2,_,_⟩,_⟩,_,_⟩:=h
 exact atab_core hg2 ht2 hv2 hd2
end Go.Proofs.YtlappkflnlbfcaaGreatDoor.Ins
end
section
namespace Go.Proofs.YtlappkflnlbfcaaGreatDoor.Ins
open Lib (hid)
open Go.ChangeShapes Go.WideShapes Go.ChangeAt Go.RowKit Go.Joins Ints Typ
set_option maxRecDepth 100000
set_option maxHeartbeats 400000
set_option linter.unusedVariables false
theorem array5 {α:Type}{cs:Array α}(h:cs.size=5):∃c0 c1 c2 c3 c4,cs=#[c0,c1,c2,c3,c4]:=by
 obtain⟨l⟩:=cs
 match l,h with
 | [c0,c1,c2,c3,c4],_=>exact ⟨c0,c1,c2,c3,c4,rfl⟩
theorem cellsI:Tryz.prog.cellsOf 33=5:=by kernel_rfl
theorem cInt:Tryz.prog.cellsOf 3=1:=by kernel_rfl
theorem cU64:Tryz.prog.cellsOf 31=1:=by kernel_rfl
theorem cSl:Tryz.prog.cellsOf 23=1:=by kernel_rfl
section
variable {H:Type} {enc:TypeId×Value->H} {w:World} {base:Nat}
theorem rowi_of {n:Nat}{v:Value}{y:DataW H×List MemPlace}(h:DataW.trod enc Tryz.prog w base (fun _=>true) true n 23 [v]=some y):∃ (a:Option Addr) (l c:Nat) (zs:List Int),v= .slice a l c/\Leb.Came .i64 w a l c zs:=by
 rcases open_ints Tryz.underlying23 Tryz.underlying3 (by kernel_rfl) h with ⟨hcs,_⟩ | ⟨x,l,c,zs,hcs,_,hl,hm,hz,_,hcell,hwz⟩
 ·simp at hcs
  subst hcs
  exact⟨none,0,0,[],rfl,.inl ⟨rfl,rfl,rfl,rfl⟩⟩
 ·simp at hcs
  subst hcs
  exact⟨some x,l,c,zs,rfl,.inr ⟨_,rfl,hl,hm,by simpa using hz,hcell,hwz⟩⟩
theorem in_cells {n:Nat}{c0 c1 c2 c3 c4:Value}{y:DataW H×List MemPlace}(h:DataW.trod enc Tryz.prog w base (fun _=>true) true n 33 [c0,c1,c2,c3,c4]=some y):
  ∃ (op A B K:Int) (a:Option Addr) (l c:Nat) (zs:List Int),c0= .int .i64 op/\c1= .int .i64 A/\c2= .int .i64 B/\c3= .int .u64 K/\c4= .slice a l c/\(Lit.int .i64 op).wf=true/\(Lit.int .i64 A).wf=true/\(Lit.int .i64 B).wf=true/\(Lit.int .u64 K).wf=true/\Leb.Came .i64 w a l c zs:=by
 obtain⟨ys,m,_,_,_,hlen,hf⟩:=DataW.trod_struct Tryz.underlying33 h
 have h0:DataW.trod enc Tryz.prog w base (fun _=>true) true m 3 (([c0,c1,c2,c3,c4].drop 0).take (Tryz.prog.cellsOf 3))=ys[0]?:=hf 0 _ rfl
 have h1:DataW.trod enc Tryz.prog w base (fun _=>true) true m 3 (([c0,c1,c2,c3,c4].drop 1).take (Tryz.prog.cellsOf 3))=ys[1]?:=hf 1 _ rfl
 have h2:DataW.trod enc Tryz.prog w base (fun _=>true) true m 3 (([c0,c1,c2,c3,c4].drop 2).take (Tryz.prog.cellsOf 3))=ys[2]?:=hf 2 _ rfl
 have h3:DataW.trod enc Tryz.prog w base (fun _=>true) true m 31 (([c0,c1,c2,c3,c4].drop 3).take (Tryz.prog.cellsOf 31))=ys[3]?:=hf 3 _ rfl
 have h4:DataW.trod enc Tryz.prog w base (fun _=>true) true m 23 (([c0,c1,c2,c3,c4].drop 4).take (Tryz.prog.cellsOf 23))=ys[4]?:=hf 4 _ rfl
 rw[cInt] at h0 h1 h2
 rw[cU64] at h3
 rw[cSl] at h4
 match ys,hlen with
 | [y0,y1,y2,y3,y4],_=>
  obtain⟨op,e0,_,w0⟩:=DataW.trod_int Tryz.underlying3 (x:=y0) (by rw[h0];rfl)
  obtain⟨A,e1,_,w1⟩:=DataW.trod_int Tryz.underlying3 (x:=y1) (by rw[h1];rfl)
  obtain⟨B,e2,_,w2⟩:=DataW.trod_int Tryz.underlying3 (x:=y2) (by rw[h2];rfl)
  obtain⟨K,e3,_,w3⟩:=DataW.trod_int Tryz.underlying31 (x:=y3) (by rw[h3];rfl)
  obtain⟨a,l,c,zs,e4,g4⟩:=rowi_of (v:=c4) (y:=y4) (by simpa using h4)
  simp at e0 e1 e2 e3
  exact⟨op,A,B,K,a,l,c,zs,e0,e1,e2,e3,e4,w0,w1,w2,w3,g4⟩
theorem in_of {r:Reach}{b0:Nat}{v:Value}{d:DataW H}{p:List MemPlace}(hv:Value.okWide Tryz.prog w r b0 33 v)(h:DataW.Trod enc Tryz.prog w base (fun _=>true) true 33 v d p):
  ∃ (op A B K:Int) (a:Option Addr) (l c:Nat) (zs:List Int),v= .agg #[.int .i64 op,.int .i64 A,.int .i64 B,.int .u64 K,.slice a l c]/\(Lit.int .i64 op).wf=true/\(Lit.int .i64 A).wf=true/\(Lit.int .i64 B).wf=true/\(Lit.int .u64 K).wf=true/\Leb.Came .i64 w a l c zs:=by
 obtain⟨cs,rfl,hsz⟩:=okWide_struct Tryz.underlying33 hv
 obtain⟨c0,c1,c2,c3,c4,rfl⟩:=array5 (hsz.trans cellsI)
 obtain⟨fuel,hf⟩:=h
 obtain⟨op,A,B,K,a,l,c,zs,rfl,rfl,rfl,rfl,rfl,w0,w1,w2,w3,g4⟩:=in_cells (by simpa [Value.cells] using hf)
 exact⟨op,A,B,K,a,l,c,zs,rfl,w0,w1,w2,w3,g4⟩
end
end Go.Proofs.YtlappkflnlbfcaaGreatDoor.Ins
end
section
namespace Go.Proofs.YtlappkflnlbfcaaGreatDoor.Ins
open Lib (hid)
open Go.ChangeShapes Go.WideShapes Go.ChangeAt Go.RowKit Go.Joins Ints Typ
set_option maxRecDepth 100000
set_option maxHeartbeats 1000000
set_option linter.unusedVariables false
def InCells (w:World)(g o:Nat)(p:Ins×Value):Prop:=
 w.cell? ⟨g,o,none⟩=some (.int .i64 p.1.op)/\w.cell? ⟨g,o+1,none⟩=some (.int .i64 p.1.A)/\w.cell? ⟨g,o+2,none⟩=some (.int .i64 p.1.B)/\w.cell? ⟨g,o+3,none⟩=some (.int .u64 p.1.K)/\w.cell? ⟨g,o+4,none⟩=some p.2
theorem InCells.keep {w w':World}{g o:Nat}{p:Ins×Value}(h:InCells w g o p)(hg:g<w.heap.size)(hb:Below w.heap.size w w'):InCells w' g o p:=by
 have key:∀i,w'.cell? ⟨g,i,none⟩=w.cell? ⟨g,i,none⟩:=fun i=>hb.cell (p:=⟨g,i,none⟩) hg
 unfold InCells
 rw[key,key,key,key,key]
 exact h
def InOk (w:World)(p:Ins×Value):Prop:=SlI w p.2 p.1.L/\u64R p.1.K
theorem InOk.keep {w w':World}{p:Ins×Value}(h:InOk w p)(hb:Below w.heap.size w w'):InOk w' p:=⟨h.1.keep hb,h.2⟩
def InRow (w:World)(v:Value)(l:List (Ins×Value)):Prop:=
 (∃A c,v= .slice A l.length c/\l.length<=c/\c<=9223372036854775807/\(l≠[]->∃g off,A=some ⟨g,off,none⟩/\g<w.heap.size/\∀j p,l[j]? = some p->InCells w g (off+j*5) p))/\∀p∈l,InOk w p
theorem InRow.keep {w w':World}{v:Value}{l:List (Ins×Value)}(h:InRow w v l)(hb:Below w.heap.size w w'):InRow w' v l:=by
 obtain⟨⟨A,c,h1,h2,h3,h4⟩,h5⟩:=h
 refine⟨⟨A,c,h1,h2,h3,fun h0=>?_⟩,fun p hp=>(h5 p hp).keep hb⟩
 obtain⟨g,off,e,hg,hB⟩:=h4 h0
 exact⟨g,off,e,Nat.lt_of_lt_of_le hg hb.size,fun j p hp=>(hB j p hp).keep hg hb⟩
theorem InRow.nil (w:World):InRow w (.slice none 0 0) []:=⟨⟨none,0,rfl,Nat.le_refl _,by omega,fun h=>absurd rfl h⟩,by simp⟩
theorem InRow.at_ {w:World}{A:Option Addr}{n c:Nat}{l:List (Ins×Value)}(h:InRow w (.slice A n c) l){j:Nat}{p:Ins×Value}(hj:l[j]? = some p):∃g off,A=some ⟨g,off,none⟩/\InCells w g (off+j*5) p/\InOk w p:=by
 obtain⟨⟨A',c',h1,h2,h3,h4⟩,h5⟩:=h
 obtain⟨g,off,e,hg,hB⟩:=h4 (fun e=>by rw[e] at hj;simp at hj)
 injection h1 with e1 e2 e3
 subst e1
 exact⟨g,off,e,hB j p hj,h5 p (List.mem_of_getElem? hj)⟩
section
variable {H:Type} {enc:TypeId×Value->H} {w:World} {base:Nat}
theorem insrow_of {n:Nat}{v:Value}{y:DataW H×List MemPlace}(h:DataW.trod enc Tryz.prog w base (fun _=>true) true n 58 [v]=some y):∃l,InRow w v l:=by
 rcases Go.Deep.open_slice Tryz.underlying58 h with ⟨hcs,_⟩ | ⟨a,len,cap,m,k,D,Pl,hcs,hb,hl,hm,hmm,_,hx⟩
 ·simp at hcs
  subst hcs
  exact⟨[],InRow.nil w⟩
 ·simp at hcs hmm
  subst hcs hmm
  have hsp:0<len->a.spot=none:=fun h0=>by
   obtain⟨cs',h1,h2⟩:=hx 0 (by omega)
   rw[cellsI] at h1
   obtain⟨_,hlen,hcell⟩:=World.cells?_some h1
   match cs',hlen with
   | [c0,c1,c2,c3,c4],_=>
    have f0:=hcell 0 (by decide)
    rw[Nat.zero_mul,show (a.add 0).add 0=a from by unfold Addr.add;simp] at f0
    exact cell_spot (v:=c0) f0
  have each:∀i,i<len->∃q:Ins×Value,InOk w q/\InCells w a.block (a.off+i*5) q:=by
   intro i hi
   have hsp:=hsp (by omega)
   obtain⟨cs',h1,h2⟩:=hx i (by omega)
   rw[cellsI] at h1
   obtain⟨_,hlen,hcell⟩:=World.cells?_some h1
   match cs',hlen with
   | [c0,c1,c2,c3,c4],_=>
    obtain⟨op,X,B,K,a4,l4,k4,zs,rfl,rfl,rfl,rfl,rfl,w0,w1,w2,w3,g4⟩:=in_cells h2
    have f0:=hcell 0 (by decide)
    have f1:=hcell 1 (by decide)
    have f2:=hcell 2 (by decide)
    have f3:=hcell 3 (by decide)
    have f4:=hcell 4 (by decide)
    obtain⟨g,off,sp⟩:=a
    simp only at hsp
    subst hsp
    simp only[Typ.add_plain] at f0 f1 f2 f3 f4
    refine⟨(⟨op,X,B,K,zs.take l4⟩,.slice a4 l4 k4),⟨came_slI g4,u64R_of w3⟩,?_⟩
    exact⟨by simpa using f0,by simpa using f1,by simpa using f2,by simpa using f3,by simpa using f4⟩
  let l:List (Ins×Value):=(List.range len).map fun i=>if hi:i<len then (each i hi).choose else (⟨0,0,0,0,[]⟩,.slice none 0 0)
  have hlen:l.length=len:=by simp[l]
  have hget:∀j p,l[j]? = some p->∃hj:j<len,p=(each j hj).choose:=by
   intro j p hp
   have hj:j<len:=by
    by_cases hh:j<len
    ·exact hh
    ·rw[List.getElem?_eq_none (by omega)] at hp;cases hp
   refine⟨hj,?_⟩
   simp only[l,List.getElem?_map,List.getElem?_range hj,Option.map_some,Option.some.injEq] at hp
   rw[dif_pos hj] at hp
   exact hp.symm
  refine⟨l,⟨some a,m,by rw[hlen],by omega,by unfold maxLen at hm;omega,fun h0=>?_⟩,fun p hp=>?_⟩
  ·have hpos:0<len:=by
    rcases Nat.eq_zero_or_pos len with e | e
    ·exact absurd (List.length_eq_zero_iff.1 (hlen.trans e)) h0
    ·exact e
   have hs0:=hsp hpos
   have hc0:=(each 0 hpos).choose_spec.2.1
   refine⟨a.block,a.off,by rw[<- hs0],World.block_lt_of_cell? w ⟨a.block,a.off+0*5,none⟩ hc0,fun j p hp=>?_⟩
   obtain⟨hj,rfl⟩:=hget j p hp
   exact(each j hj).choose_spec.2
  ·obtain ⟨j,hj⟩:=List.getElem?_of_mem hp
   obtain⟨hj',rfl⟩:=hget j p hj
   exact(each j hj').choose_spec.1
theorem ins_of {r:Reach}{b0:Nat}{v:Value}{d:DataW H}{p:List MemPlace}(hv:Value.okWide Tryz.prog w r b0 58 v)(h:DataW.Trod enc Tryz.prog w base (fun _=>true) true 58 v d p):∃l,InRow w v l:=by
 obtain⟨a,l,c,rfl⟩:=okWide_slice Tryz.underlying58 hv
 obtain⟨fuel,hf⟩:=h
 exact insrow_of hf
end
end Go.Proofs.YtlappkflnlbfcaaGreatDoor.Ins
end
section
namespace Go.Proofs.YtlappkflnlbfcaaGreatDoor.Stab
open Lib (hid)
open Go.RowKit
set_option maxRecDepth 100000
set_option linter.unusedVariables false
section
variable {P:Program} {ops:Array Oper} {w0:World} {a0:Act} {env:List (Tmp×Sp)} {o:Oper}
theorem owes_not {t:TypeId}{x:Operand}{b:Bool}(ho:o.op= .unOp .not t x)(hx:evalS a0 env x= .is (.bool b))(hr:∀w,(Op.unary .not (.bool b)).run P w= .ok (.bool !b) w)(hw:wantB ops a0 env o=true):Owes P ops w0 a0 env o (.is (.bool !b)):=
 owes_run hw fun ρ w _ hρ=>by
  have h1:=hρ x (by simp[ho,Op.operands])
  rw[hx] at h1
  have h1:ρ x= .bool b:=h1
  simp only[execOp,ho,h1]
  rw[Sem.run_bind,hr w]
  exact⟨Below.refl _ _,rfl⟩
end
theorem run_not {P:Program}(b:Bool)(W:World):(Op.unary .not (.bool b)).run P W= .ok (.bool !b) W:=by go_simp
theorem run_eqE (x y:Operand)(a b:Int)(r:Bool)(h:(a == b)=r)(W:World):(do eqGuard BinOp.eql 40 x y (.int .i64 a) (.int .i64 b);binOp BinOp.eql 40 (.int .i64 a) (.int .i64 b):Sem Value).run Tryz.prog W= .ok (.bool r) W:=by
 subst h;go_simp
theorem run_neE (x y:Operand)(a b:Int)(r:Bool)(h:(a != b)=r)(W:World):(do eqGuard BinOp.neq 40 x y (.int .i64 a) (.int .i64 b);binOp BinOp.neq 40 (.int .i64 a) (.int .i64 b):Sem Value).run Tryz.prog W= .ok (.bool r) W:=by
 subst h;go_simp
theorem run_neI (x y:Operand)(a b:Int)(r:Bool)(h:(a != b)=r)(W:World):(do eqGuard BinOp.neq 3 x y (.int .i64 a) (.int .i64 b);binOp BinOp.neq 3 (.int .i64 a) (.int .i64 b):Sem Value).run Tryz.prog W= .ok (.bool r) W:=by
 subst h;go_simp
theorem run_cellI (x:Int)(g o:Nat)(W:World)(h:W.cell? ⟨g,o,none⟩=some (.int .i64 x)):(Instr.loadAt 3 (.pointer (some ⟨g,o,none⟩))).run Tryz.prog W= .ok (.int .i64 x) W:=by go_simp
end Go.Proofs.YtlappkflnlbfcaaGreatDoor.Stab
end
