/- TypAt, TypVals, TypSane. -/
import Derived.Test.YtlappkflnlbfcaaGreatDoorPkLebTwo
section
namespace Go.Proofs.YtlappkflnlbfcaaGreatDoor.Typ
open Lib (hid)
open Go.RowKit
set_option maxRecDepth 100000
set_option maxHeartbeats 1000000
def isV (c:Int):Bool:=decide (c=127\/c=126)
theorem isV_no {c:Int}(h:¬ (c=127\/c=126)):isV c=false:=decide_eq_false h
theorem isVal_any (c:Int)(w:World):Calls Tryz.prog 163 #[.int .u8 c] w fun e w'=>e= .returned (.bool (isV c))/\w=w':=by
 by_cases h1:c=127
 ·subst h1
  go_enter Tryz.func163,Tryz.ntmps163
  go_wp2
  go_ret
  exact⟨rfl,rfl⟩
 ·have t1:(c == 127)=false:=by simpa using h1
  by_cases h2:c=126
  ·subst h2
   go_enter Tryz.func163,Tryz.ntmps163
   go_wp2
   go_ret
   exact⟨rfl,rfl⟩
  ·have t2:(c == 126)=false:=by simpa using h2
   have H:=hid (isV_no (c:=c) (by omega))
   clear h1 h2
   go_enter Tryz.func163,Tryz.ntmps163
   go_wp2
   go_ret
   rw[H.out]
   exact⟨rfl,rfl⟩
theorem drop_cons {l:List Int}{k:Nat}(h:k<l.length):l.drop k=l.getD k 0 :: l.drop (k+1):=by
 rw[List.drop_eq_getElem_cons h]
 simp[h]
def allV (l:List Int):Bool:=l.all isV
theorem allV_nil:allV []=true:=rfl
theorem allV_step {l:List Int}{k:Nat}(h:k<l.length):allV (l.drop k)=(isV (l.getD k 0) && allV (l.drop (k+1))):=by rw[drop_cons h];rfl
theorem allV_true {l:List Int}(h:allV l=true):∀x∈l,isV x=true:=fun x hx=>List.all_eq_true.1 h x hx
theorem are_none (A:Option Addr)(c:Nat)(w:World):Calls Tryz.prog 137 #[.slice A 0 c] w fun e w'=>e= .returned (.bool true)/\w=w':=by
 go_enter Tryz.func137,Tryz.ntmps137
 go_wp2_with fail
 go_loop [7] (fun i=>i= .int .i64 0) (fun _=>0)
 case atStart=>rfl
 case round=>
  subst hrel
  go_wp2_with fail
  go_ret
  exact⟨rfl,rfl⟩
theorem all_none (A:Option Addr)(c:Nat)(w:World):Calls Tryz.prog 112 #[.slice A 0 c] w fun e w'=>e= .returned (.bool true)/\w=w':=by
 go_enter Tryz.func112,Tryz.ntmps112
 go_wp2_with fail
 go_loop [3] (fun i=>i= .int .i64 0) (fun _=>0)
 case atStart=>rfl
 case round=>
  subst hrel
  go_wp2_with fail
  go_ret
  exact⟨rfl,rfl⟩
theorem ret_b {a b:Bool}(h:a=b):Ending.returned (.bool a)= .returned (.bool b):=by rw[h]
theorem are_some (g off c:Nat)(l:List Int)(w:World)(hB:Byt w w.heap.size ⟨g,off,none⟩ l)(hl:l.length<=1000000):Calls Tryz.prog 137 #[.slice (some ⟨g,off,none⟩) l.length c] w fun e w'=>e= .returned (.bool (allV l))/\w=w':=by
 have HB:=hid hB
 clear hB
 go_enter Tryz.func137,Tryz.ntmps137
 go_wp2_with fail
 go_loop [7] (fun i=>∃k:Nat,k<=l.length/\i= .int .i64 (k:Int)/\allV (l.drop k)=allV l) (fun i=>l.length - (intOf i).toNat)
 case atStart=>exact ⟨0,Nat.zero_le _,rfl,rfl⟩
 case round=>
  obtain⟨k,hk,rfl,ha⟩:=hrel
  have HA:=hid ha
  clear ha
  by_cases hlt:k<l.length
  ·have hcell:=HB.out.2.2 k hlt
   have hst:=hid (allV_step hlt)
   have HV:=hid (isVal_any (l.getD k 0) w)
   revert hcell hst HV
   generalize l.getD k 0=y
   intro hcell hst HV
   cases hc:isV y with
   | true=>
    rw[hc] at HV hst
    clear hc
    go_wp2_with fail
    refine HV.out.mono ?_
    rintro e w2 ⟨rfl,rfl⟩
    go_wp2_with fail
    go_round
    case rel=>exact ⟨k+1,by omega,by go_num,by rw[<- HA.out,hst.out];rfl⟩
    case measure=>simp[intOf];omega
   | false=>
    rw[hc] at HV hst
    clear hc
    go_wp2_with fail
    refine HV.out.mono ?_
    rintro e w2 ⟨rfl,rfl⟩
    go_wp2_with fail
    go_ret
    exact⟨ret_b (by rw[<- HA.out,hst.out];rfl),rfl⟩
  ·obtain rfl:k=l.length:=by omega
   go_wp2_with fail
   go_ret
   exact⟨ret_b (by rw[<- HA.out,List.drop_length];rfl),rfl⟩
theorem all_some (g off c:Nat)(l:List Int)(w:World)(hB:Byt w w.heap.size ⟨g,off,none⟩ l)(hl:l.length<=1000000):Calls Tryz.prog 112 #[.slice (some ⟨g,off,none⟩) l.length c] w fun e w'=>e= .returned (.bool (allV l))/\w=w':=by
 have HB:=hid hB
 clear hB
 go_enter Tryz.func112,Tryz.ntmps112
 go_wp2_with fail
 go_loop [3] (fun i=>∃k:Nat,k<=l.length/\i= .int .i64 (k:Int)/\allV (l.drop k)=allV l) (fun i=>l.length - (intOf i).toNat)
 case atStart=>exact ⟨0,Nat.zero_le _,rfl,rfl⟩
 case round=>
  obtain⟨k,hk,rfl,ha⟩:=hrel
  have HA:=hid ha
  clear ha
  by_cases hlt:k<l.length
  ·have hcell:=HB.out.2.2 k hlt
   have hst:=hid (allV_step hlt)
   revert hcell hst
   generalize l.getD k 0=y
   intro hcell hst
   by_cases h1:y=126
   ·subst h1
    go_wp2_with fail
    go_round
    case rel=>exact ⟨k+1,by omega,by go_num,by rw[<- HA.out,hst.out];rfl⟩
    case measure=>simp[intOf];omega
   ·by_cases h2:y=127
    ·subst h2
     clear h1
     go_wp2_with fail
     go_round
     case rel=>exact ⟨k+1,by omega,by go_num,by rw[<- HA.out,hst.out];rfl⟩
     case measure=>simp[intOf];omega
    ·have t1:(y != 126)=true:=by simpa using h1
     have t2:(y != 127)=true:=by simpa using h2
     rw[isV_no (c:=y) (by omega)] at hst
     clear h1 h2
     go_wp2_with fail
     go_ret
     exact⟨ret_b (by rw[<- HA.out,hst.out];rfl),rfl⟩
  ·obtain rfl:k=l.length:=by omega
   go_wp2_with fail
   go_ret
   exact⟨ret_b (by rw[<- HA.out,List.drop_length];rfl),rfl⟩
theorem are_any (v:Value)(l:List Int)(w:World)(hv:Sl w v l)(hl:l.length<=1000000):Calls Tryz.prog 137 #[v] w fun e w'=>e= .returned (.bool (allV l))/\w=w':=by
 obtain⟨A,c,rfl,_,_,h4⟩:=hv
 by_cases h0:l = []
 ·subst h0
  exact are_none A c w
 ·obtain ⟨g,off,rfl,hB⟩:=h4 h0
  exact are_some g off c l w hB hl
theorem all_any (v:Value)(l:List Int)(w:World)(hv:Sl w v l)(hl:l.length<=1000000):Calls Tryz.prog 112 #[v] w fun e w'=>e= .returned (.bool (allV l))/\w=w':=by
 obtain⟨A,c,rfl,_,_,h4⟩:=hv
 by_cases h0:l = []
 ·subst h0
  exact all_none A c w
 ·obtain ⟨g,off,rfl,hB⟩:=h4 h0
  exact all_some g off c l w hB hl
def sane (p r:List Int):Bool:=bif decide (p.length<=16) then (bif decide (r.length<=1) then (bif allV p then allV r else false) else false) else false
theorem sane_any (v u:Value)(p r:List Int)(w:World)(hv:Sl w v p)(hu:Sl w u r)(hp:p.length<=1000000)(hr:r.length<=1000000):Calls Tryz.prog 105 #[.agg #[v,u]] w fun e w'=>e= .returned (.bool (sane p r))/\Below w.heap.size w w':=by
 have HV:=hid (fun W (hW:Below w.heap.size w W)=>are_any v p W (hv.keep hW) hp)
 have HU:=hid (fun W (hW:Below w.heap.size w W)=>are_any u r W (hu.keep hW) hr)
 obtain⟨A,c,rfl,_⟩:=hv
 obtain⟨A2,c2,rfl,_⟩:=hu
 unfold sane
 by_cases h1:p.length<=16
 ·rw[decide_eq_true h1]
  have t1:decide ((p.length:Int)<=16)=true:=by simp;omega
  by_cases h2:r.length<=1
  ·rw[decide_eq_true h2]
   have t2:decide ((r.length:Int)<=1)=true:=by simp;omega
   clear h1 h2
   cases ha:allV p with
   | true=>
    rw[ha] at HV
    clear ha
    generalize hb:allV r=b at *
    clear hb
    go_enter Tryz.func105,Tryz.ntmps105
    go_wp2_with fail
    refine(HV.out _ (by repeat (first | exact Below.refl _ _ | refine Below.alloc ?_ (by simp) _))).mono ?_
    rintro e w2 ⟨rfl,rfl⟩
    go_wp2_with fail
    refine(HU.out _ (by repeat (first | exact Below.refl _ _ | refine Below.alloc ?_ (by simp) _))).mono ?_
    rintro e w3 ⟨rfl,rfl⟩
    go_wp2_with fail
    go_ret
    exact⟨rfl,by repeat (first | exact Below.refl _ _ | refine Below.alloc ?_ (by simp) _)⟩
   | false=>
    rw[ha] at HV
    clear ha
    go_enter Tryz.func105,Tryz.ntmps105
    go_wp2_with fail
    refine(HV.out _ (by repeat (first | exact Below.refl _ _ | refine Below.alloc ?_ (by simp) _))).mono ?_
    rintro e w2 ⟨rfl,rfl⟩
    go_wp2_with fail
    go_ret
    exact⟨rfl,by repeat (first | exact Below.refl _ _ | refine Below.alloc ?_ (by simp) _)⟩
  ·rw[decide_eq_false h2]
   have t2:decide ((r.length:Int)<=1)=false:=by simp;omega
   clear h1 h2
   go_enter Tryz.func105,Tryz.ntmps105
   go_wp2_with fail
   go_ret
   exact⟨rfl,by repeat (first | exact Below.refl _ _ | refine Below.alloc ?_ (by simp) _)⟩
 ·rw[decide_eq_false h1]
  have t1:decide ((p.length:Int)<=16)=false:=by simp;omega
  clear h1
  go_enter Tryz.func105,Tryz.ntmps105
  go_wp2_with fail
  go_ret
  exact⟨rfl,by repeat (first | exact Below.refl _ _ | refine Below.alloc ?_ (by simp) _)⟩
theorem rsane_any (v u:Value)(p r:List Int)(w:World)(hv:Sl w v p)(hu:Sl w u r)(hp:p.length<=1000000)(hr:r.length<=1000000):Calls Tryz.prog 82 #[.agg #[v,u]] w fun e w'=>e= .returned (.bool (sane p r))/\Below w.heap.size w w':=by
 have HV:=hid (fun W (hW:Below w.heap.size w W)=>all_any v p W (hv.keep hW) hp)
 have HU:=hid (fun W (hW:Below w.heap.size w W)=>all_any u r W (hu.keep hW) hr)
 obtain⟨A,c,rfl,_⟩:=hv
 obtain⟨A2,c2,rfl,_⟩:=hu
 unfold sane
 by_cases h1:p.length<=16
 ·rw[decide_eq_true h1]
  have t1:decide ((p.length:Int)<=16)=true:=by simp;omega
  by_cases h2:r.length<=1
  ·rw[decide_eq_true h2]
   have t2:decide ((r.length:Int)<=1)=true:=by simp;omega
   clear h1 h2
   cases ha:allV p with
   | true=>
    rw[ha] at HV
    clear ha
    generalize hb:allV r=b at *
    clear hb
    go_enter Tryz.func82,Tryz.ntmps82
    go_wp2_with fail
    refine(HV.out _ (by repeat (first | exact Below.refl _ _ | refine Below.alloc ?_ (by simp) _))).mono ?_
    rintro e w2 ⟨rfl,rfl⟩
    go_wp2_with fail
    refine(HU.out _ (by repeat (first | exact Below.refl _ _ | refine Below.alloc ?_ (by simp) _))).mono ?_
    rintro e w3 ⟨rfl,rfl⟩
    go_wp2_with fail
    go_ret
    exact⟨rfl,by repeat (first | exact Below.refl _ _ | refine Below.alloc ?_ (by simp) _)⟩
   | false=>
    rw[ha] at HV
    clear ha
    go_enter Tryz.func82,Tryz.ntmps82
    go_wp2_with fail
    refine(HV.out _ (by repeat (first | exact Below.refl _ _ | refine Below.alloc ?_ (by simp) _))).mono ?_
    rintro e w2 ⟨rfl,rfl⟩
    go_wp2_with fail
    go_ret
    exact⟨rfl,by repeat (first | exact Below.refl _ _ | refine Below.alloc ?_ (by simp) _)⟩
  ·rw[decide_eq_false h2]
   have t2:decide ((r.length:Int)<=1)=false:=by simp;omega
   clear h1 h2
   go_enter Tryz.func82,Tryz.ntmps82
   go_wp2_with fail
   go_ret
   exact⟨rfl,by repeat (first | exact Below.refl _ _ | refine Below.alloc ?_ (by simp) _)⟩
 ·rw[decide_eq_false h1]
  have t1:decide ((p.length:Int)<=16)=false:=by simp;omega
  clear h1
  go_enter Tryz.func82,Tryz.ntmps82
  go_wp2_with fail
  go_ret
  exact⟨rfl,by repeat (first | exact Below.refl _ _ | refine Below.alloc ?_ (by simp) _)⟩
end Go.Proofs.YtlappkflnlbfcaaGreatDoor.Typ
end
