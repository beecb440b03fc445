/- IntsAll. -/
import Derived.Test.YtlappkflnlbfcaaGreatDoorChecked
import Derived.WalkKit
import Derived.OpenShut
import Derived.Lib.Hide
import Derived.WalkSpells
import Derived.OwnWalk
import Derived.Below
section
namespace Go.Proofs.YtlappkflnlbfcaaGreatDoor.Ints
open Lib (hid)
open Go.RowKit
theorem ret_int {k:IntKind}{a b:Int}(h:a=b):Ending.returned (.int k a)= .returned (.int k b):=by rw[h]
theorem ret_bool {a b:Bool}(h:a=b):Ending.returned (.bool a)= .returned (.bool b):=by rw[h]
theorem kind_a (op:Int)(w:World)(h1:69<=op)(h2:op<=79):Calls Tryz.prog 64 #[.int .i64 op] w fun e w'=>e= .returned (.tuple #[.int .i64 (op - 69),.int .i64 32])/\w=w':=by
 go_enter Tryz.func64,Tryz.ntmps64
 go_wp2
 go_ret2
 exact⟨rfl,rfl⟩
theorem kind_b (op:Int)(w:World)(h1:80<=op)(h2:op<=90):Calls Tryz.prog 64 #[.int .i64 op] w fun e w'=>e= .returned (.tuple #[.int .i64 (op - 80),.int .i64 64])/\w=w':=by
 go_enter Tryz.func64,Tryz.ntmps64
 go_wp2
 go_ret2
 exact⟨rfl,rfl⟩
theorem kind_c (op:Int)(w:World)(h1:103<=op)(h2:op<=120):Calls Tryz.prog 64 #[.int .i64 op] w fun e w'=>e= .returned (.tuple #[.int .i64 (op - 92),.int .i64 32])/\w=w':=by
 go_enter Tryz.func64,Tryz.ntmps64
 go_wp2
 go_ret2
 exact⟨rfl,rfl⟩
theorem kind_d (op:Int)(w:World)(h1:121<=op)(h2:op<=138):Calls Tryz.prog 64 #[.int .i64 op] w fun e w'=>e= .returned (.tuple #[.int .i64 (op - 110),.int .i64 64])/\w=w':=by
 go_enter Tryz.func64,Tryz.ntmps64
 go_wp2
 go_ret2
 exact⟨rfl,rfl⟩
def noKind (op:Int):Prop:=op<69\/(90<op/\op<103)\/138<op
theorem kind_none (op:Int)(w:World)(h:noKind op):Calls Tryz.prog 64 #[.int .i64 op] w fun e w'=>e= .returned (.tuple #[.int .i64 (-1),.int .i64 0])/\w=w':=by
 rcases h with h | ⟨h,h'⟩ | h
 ·go_enter Tryz.func64,Tryz.ntmps64
  go_wp2
  go_ret2
  exact⟨rfl,rfl⟩
 ·go_enter Tryz.func64,Tryz.ntmps64
  go_wp2
  go_ret2
  exact⟨rfl,rfl⟩
 ·go_enter Tryz.func64,Tryz.ntmps64
  go_wp2
  go_ret2
  exact⟨rfl,rfl⟩
end Go.Proofs.YtlappkflnlbfcaaGreatDoor.Ints
namespace Go.Proofs.YtlappkflnlbfcaaGreatDoor.Ints
open Lib (hid)
open Go.RowKit
theorem ret_tup3 {k1 k2:IntKind}{a b c d:Int}{x y:Bool}(h:a=b)(h2:c=d)(h3:x=y):Ending.returned (.tuple #[.int k1 a,.int k2 c,.bool x])= .returned (.tuple #[.int k1 b,.int k2 d,.bool y]):=by rw[h,h2,h3]
def loT (t v:Int):Int:=if t=127 then v % 4294967296 else v
def u64R (v:Int):Prop:=0<=v/\v<=18446744073709551615
set_option maxRecDepth 100000
theorem value_32 (n:Int)(w:World):Calls Tryz.prog 148 #[.int .u8 127,.int .i64 n] w fun e w'=>e= .returned (.int .u64 (n % 4294967296))/\w=w':=by
 go_enter Tryz.func148,Tryz.ntmps148
 go_wp2
 go_ret
 exact⟨rfl,rfl⟩
theorem value_64 (t n:Int)(w:World)(ht:t≠127):Calls Tryz.prog 148 #[.int .u8 t,.int .i64 n] w fun e w'=>e= .returned (.int .u64 (n % 18446744073709551616))/\w=w':=by
 have hb:(t == 127)=false:=by simpa using ht
 clear ht
 go_enter Tryz.func148,Tryz.ntmps148
 go_wp2
 go_ret
 exact⟨rfl,rfl⟩
def vaT (t n:Int):Int:=if t=127 then n % 4294967296 else n % 18446744073709551616
theorem value_any (t n:Int)(w:World):Calls Tryz.prog 148 #[.int .u8 t,.int .i64 n] w fun e w'=>e= .returned (.int .u64 (vaT t n))/\w=w':=by
 by_cases h:t=127
 ·subst h
  exact(value_32 n w).mono fun e w' ⟨h1,h2⟩=>⟨by rw[h1];simp[vaT],h2⟩
 ·exact (value_64 t n w h).mono fun e w' ⟨h1,h2⟩=>⟨by rw[h1];simp[vaT,h],h2⟩
theorem vaT_lo (t v:Int)(hv:u64R v):vaT t (wrap64 v)=loT t v:=by
 obtain⟨h0,h1⟩:=hv
 unfold vaT loT wrap64;split <;> omega
theorem lowest_any (t v:Int)(w:World)(hv:u64R v):Calls Tryz.prog 118 #[.int .u8 t,.int .u64 v] w fun e w'=>e= .returned (.int .u64 (loT t v))/\w=w':=by
 have H:=hid (vaT_lo t v hv)
 clear hv
 go_enter Tryz.func118,Tryz.ntmps118
 go_wp2_with (go_at_call 148;refine (value_any _ _ _).mono ?_;rintro e w' ⟨rfl,rfl⟩)
 go_ret
 exact⟨ret_int H.out,rfl⟩
def fitT (t v:Int):Bool:=decide (t=126) || (decide (t=127) && decide (v<4294967296))
theorem fits_any (t v:Int)(w:World)(hv:u64R v):Calls Tryz.prog 92 #[.int .u8 t,.int .u64 v] w fun e w'=>e= .returned (.bool (fitT t v))/\w=w':=by
 by_cases h6:t=126
 ·subst h6
  have H:Hid (fitT 126 v=true):=by show _=_;simp[fitT]
  go_enter Tryz.func92,Tryz.ntmps92
  go_wp2
  go_ret
  exact⟨ret_bool H.out.symm,rfl⟩
 ·by_cases h7:t=127
  ·subst h7
   have hl:=lowest_any 127 v
   by_cases hf:v<4294967296
   ·have H:Hid (fitT 127 v=true):=by show _=_;simp[fitT,hf]
    have hb:(loT 127 v == v)=true:=by simp[loT];have:=hv.1;omega
    have HL:=hid (fun W=>hl W hv)
    clear hl hv
    go_enter Tryz.func92,Tryz.ntmps92
    go_wp2_with (go_at_call 118;refine (HL.out _).mono ?_;rintro e w' ⟨rfl,rfl⟩)
    go_ret
    exact⟨ret_bool H.out.symm,rfl⟩
   ·have H:Hid (fitT 127 v=false):=by show _=_;simp[fitT];omega
    have hb:(loT 127 v == v)=false:=by simp[loT];have:=hv.1;omega
    have HL:=hid (fun W=>hl W hv)
    clear hl hv hf
    go_enter Tryz.func92,Tryz.ntmps92
    go_wp2_with (go_at_call 118;refine (HL.out _).mono ?_;rintro e w' ⟨rfl,rfl⟩)
    go_ret
    exact⟨ret_bool H.out.symm,rfl⟩
  ·have H:Hid (fitT t v=false):=by show _=_;simp[fitT,h6,h7]
   have hb:(t == 126)=false:=by simpa using h6
   have hb7:(t == 127)=false:=by simpa using h7
   clear h6 h7 hv
   go_enter Tryz.func92,Tryz.ntmps92
   go_wp2
   go_ret
   exact⟨ret_bool H.out.symm,rfl⟩
def famT (op:Int):Int:=if 69<=op/\op<=79\/103<=op/\op<=120\/op=172\/op=173 then 127 else if 80<=op/\op<=90\/121<=op/\op<=138\/op=167 then 126 else 0
def famL (op:Int):Int:=if 69<=op/\op<=79\/103<=op/\op<=120\/op=172\/op=173\/op=167 then op else if 80<=op/\op<=90 then op - 11 else if 121<=op/\op<=138 then op - 18 else 0
def famB (op:Int):Bool:=decide (69<=op/\op<=90\/103<=op/\op<=138\/op=172\/op=173\/op=167)
theorem family_any (op:Int)(w:World):Calls Tryz.prog 154 #[.int .i64 op] w fun e w'=>e= .returned (.tuple #[.int .u8 (famT op),.int .i64 (famL op),.bool (famB op)])/\w=w':=by
 by_cases h1:69<=op/\op<=79
 ·have H:Hid (famT op=127/\famL op=op/\famB op=true):=by show _/\_;refine ⟨if_pos (by omega),if_pos (by omega),decide_eq_true (by omega)⟩
  obtain⟨h1,h1'⟩:=h1
  go_enter Tryz.func154,Tryz.ntmps154
  go_wp2
  go_ret3
  exact⟨ret_tup3 H.out.1.symm H.out.2.1.symm H.out.2.2.symm,rfl⟩
 ·by_cases h2:103<=op/\op<=120
  ·have H:Hid (famT op=127/\famL op=op/\famB op=true):=by show _/\_;refine ⟨if_pos (by omega),if_pos (by omega),decide_eq_true (by omega)⟩
   obtain⟨h2,h2'⟩:=h2
   clear h1
   go_enter Tryz.func154,Tryz.ntmps154
   go_wp2
   go_ret3
   exact⟨ret_tup3 H.out.1.symm H.out.2.1.symm H.out.2.2.symm,rfl⟩
  ·by_cases h3:80<=op/\op<=90
   ·have H:Hid (famT op=126/\famL op=op - 11/\famB op=true):=by show _/\_;refine ⟨(if_neg (by omega)).trans (if_pos (by omega)),(if_neg (by omega)).trans (if_pos (by omega)),decide_eq_true (by omega)⟩
    obtain⟨h3,h3'⟩:=h3
    clear h1 h2
    go_enter Tryz.func154,Tryz.ntmps154
    go_wp2
    go_ret3
    exact⟨ret_tup3 H.out.1.symm H.out.2.1.symm H.out.2.2.symm,rfl⟩
   ·by_cases h4:121<=op/\op<=138
    ·have H:Hid (famT op=126/\famL op=op - 18/\famB op=true):=by show _/\_;refine ⟨(if_neg (by omega)).trans (if_pos (by omega)),(if_neg (by omega)).trans ((if_neg (by omega)).trans (if_pos (by omega))),decide_eq_true (by omega)⟩
     obtain⟨h4,h4'⟩:=h4
     clear h1 h2 h3
     go_enter Tryz.func154,Tryz.ntmps154
     go_wp2
     go_ret3
     exact⟨ret_tup3 H.out.1.symm H.out.2.1.symm H.out.2.2.symm,rfl⟩
    ·by_cases h5:op=172\/op=173\/op=167
     ·rcases h5 with rfl | rfl | rfl <;>
      ·go_enter Tryz.func154,Tryz.ntmps154
       go_wp2
       go_ret3
       exact⟨rfl,rfl⟩
     ·have H:Hid (famT op=0/\famL op=0/\famB op=false):=by show _/\_;refine ⟨(if_neg (by omega)).trans (if_neg (by omega)),(if_neg (by omega)).trans ((if_neg (by omega)).trans (if_neg (by omega))),decide_eq_false (by omega)⟩
      have e1:(op == 172)=false:=by simp;omega
      have e2:(op == 173)=false:=by simp;omega
      have e3:(op == 167)=false:=by simp;omega
      have hc:op<69\/(90<op/\op<103)\/138<op:=by omega
      clear h1 h2 h3 h4 h5
      rcases hc with h | ⟨h,h'⟩ | h <;>
      ·go_enter Tryz.func154,Tryz.ntmps154
       go_wp2
       go_ret3
       exact⟨ret_tup3 H.out.1.symm H.out.2.1.symm H.out.2.2.symm,rfl⟩
def tkB (l:Int):Bool:=decide (l=69) || (decide (103<=l) && decide (l<=105)) || decide (120<l)
theorem takes_any (l:Int)(w:World):Calls Tryz.prog 155 #[.int .i64 l] w fun e w'=>e= .returned (.bool (tkB l))/\w=w':=by
 by_cases h1:l=69
 ·subst h1
  go_enter Tryz.func155,Tryz.ntmps155
  go_wp2
  go_ret
  exact⟨rfl,rfl⟩
 ·have e1:(l == 69)=false:=by simpa using h1
  by_cases h2:l<103
  ·have H:Hid (tkB l=false):=by show _=_;simp[tkB,h1];omega
   have d4:decide (120<l)=false:=by simp;omega
   clear h1
   go_enter Tryz.func155,Tryz.ntmps155
   go_wp2
   go_ret
   exact⟨ret_bool H.out.symm,rfl⟩
  ·by_cases h3:l<=105
   ·have H:Hid (tkB l=true):=by show _=_;simp[tkB,h1,h3];omega
    have h2':103<=l:=by omega
    clear h1 h2
    go_enter Tryz.func155,Tryz.ntmps155
    go_wp2
    go_ret
    exact⟨ret_bool H.out.symm,rfl⟩
   ·by_cases h4:120<l
    ·have H:Hid (tkB l=true):=by show _=_;simp[tkB,h4]
     clear h1 h2 h3
     go_enter Tryz.func155,Tryz.ntmps155
     go_wp2
     go_ret
     exact⟨ret_bool H.out.symm,rfl⟩
    ·have H:Hid (tkB l=false):=by show _=_;simp[tkB,h1];omega
     have d3:decide (l<=105)=false:=by simp;omega
     have d4:decide (120<l)=false:=by simp;omega
     have h2':103<=l:=by omega
     clear h1 h2 h3 h4
     go_enter Tryz.func155,Tryz.ntmps155
     go_wp2
     go_ret
     exact⟨ret_bool H.out.symm,rfl⟩
def gvT (t l:Int):Int:=if l<=79\/l=167 then 127 else if l=172\/l=173 then 126 else t
theorem given_any (t l:Int)(w:World):Calls Tryz.prog 156 #[.int .u8 t,.int .i64 l] w fun e w'=>e= .returned (.int .u8 (gvT t l))/\w=w':=by
 by_cases h1:l<=79
 ·have H:Hid (gvT t l=127):=if_pos (.inl h1)
  go_enter Tryz.func156,Tryz.ntmps156
  go_wp2
  go_ret
  exact⟨ret_int H.out.symm,rfl⟩
 ·by_cases h2:l=167\/l=172\/l=173
  ·rcases h2 with rfl | rfl | rfl <;>
   ·clear h1
    go_enter Tryz.func156,Tryz.ntmps156
    go_wp2
    go_ret
    exact⟨rfl,rfl⟩
  ·have H:Hid (gvT t l=t):=(if_neg (by omega)).trans (if_neg (by omega))
   have e1:(l == 172)=false:=by simp;omega
   have e2:(l == 173)=false:=by simp;omega
   have e3:(l == 167)=false:=by simp;omega
   have h':79<l:=by omega
   clear h1 h2
   go_enter Tryz.func156,Tryz.ntmps156
   go_wp2
   go_ret
   exact⟨ret_int H.out.symm,rfl⟩
end Go.Proofs.YtlappkflnlbfcaaGreatDoor.Ints
namespace Go.Proofs.YtlappkflnlbfcaaGreatDoor.Ints
open Lib (hid)
open Go.RowKit
set_option maxRecDepth 100000
set_option maxHeartbeats 400000
def ShN (f:FuncId)(op:Int):Prop:=∀w,Calls Tryz.prog f #[.int .i64 op] w fun e w'=>e= .returned (.tuple #[.slice none 0 0,.int .u8 0,.bool false])/\w=w'
def Sh1 (f:FuncId)(op T G:Int):Prop:=∀w,Calls Tryz.prog f #[.int .i64 op] w fun e w'=>e= .returned (.tuple #[.slice (some ⟨w.heap.size,0,none⟩) 1 1,.int .u8 G,.bool true])/\w.alloc (.cells #[.int .u8 T] 5)=w'
def Sh2 (f:FuncId)(op T G:Int):Prop:=∀w,Calls Tryz.prog f #[.int .i64 op] w fun e w'=>e= .returned (.tuple #[.slice (some ⟨w.heap.size,0,none⟩) 2 2,.int .u8 G,.bool true])/\w.alloc (.cells #[.int .u8 T,.int .u8 T] 5)=w'
theorem shape_one (op T G:Int)(h1:famB op=true)(h2:tkB (famL op)=true)(hT:famT op=T)(hG:gvT T (famL op)=G):Sh1 126 op T G:=by
 intro w
 subst hT hG
 go_enter Tryz.func126,Tryz.ntmps126
 go_wp2_with (first | (go_at_call 154;refine (family_any _ _).mono ?_;rintro e w' ⟨rfl,rfl⟩) | (go_at_call 155;refine (takes_any _ _).mono ?_;rintro e w' ⟨rfl,rfl⟩) | (go_at_call 156;refine (given_any _ _ _).mono ?_;rintro e w' ⟨rfl,rfl⟩))
 go_ret3
 exact⟨rfl,rfl⟩
theorem shape_two (op T G:Int)(h1:famB op=true)(h2:tkB (famL op)=false)(hT:famT op=T)(hG:gvT T (famL op)=G):Sh2 126 op T G:=by
 intro w
 subst hT hG
 go_enter Tryz.func126,Tryz.ntmps126
 go_wp2_with (first | (go_at_call 154;refine (family_any _ _).mono ?_;rintro e w' ⟨rfl,rfl⟩) | (go_at_call 155;refine (takes_any _ _).mono ?_;rintro e w' ⟨rfl,rfl⟩) | (go_at_call 156;refine (given_any _ _ _).mono ?_;rintro e w' ⟨rfl,rfl⟩))
 go_ret3
 exact⟨rfl,rfl⟩
theorem of_32 (w:World):Calls Tryz.prog 65 #[.int .i64 32] w fun e w'=>e= .returned (.int .u8 127)/\w=w':=by
 go_enter Tryz.func65,Tryz.ntmps65
 go_wp2
 go_ret
 exact⟨rfl,rfl⟩
theorem of_64 (w:World):Calls Tryz.prog 65 #[.int .i64 64] w fun e w'=>e= .returned (.int .u8 126)/\w=w':=by
 go_enter Tryz.func65,Tryz.ntmps65
 go_wp2
 go_ret
 exact⟨rfl,rfl⟩
def KindIs (op k n:Int):Prop:=∀w,Calls Tryz.prog 64 #[.int .i64 op] w fun e w'=>e= .returned (.tuple #[.int .i64 k,.int .i64 n])/\w=w'
theorem rsh_167:Sh1 30 167 126 127:=by
 intro w
 have HK:=hid (fun W=>kind_none 167 W (by unfold noKind;omega))
 go_enter Tryz.func30,Tryz.ntmps30
 go_wp2_with fail
 refine(HK.out _).mono ?_
 rintro e w' ⟨rfl,rfl⟩
 go_wp2_with fail
 go_ret3
 exact⟨rfl,rfl⟩
theorem rsh_ext (op:Int)(h:op=172\/op=173):Sh1 30 op 127 126:=by
 intro w
 have HK:=hid (fun W=>kind_none op W (by unfold noKind;omega))
 rcases h with rfl | rfl <;>
 ·go_enter Tryz.func30,Tryz.ntmps30
  go_wp2_with fail
  refine(HK.out _).mono ?_
  rintro e w' ⟨rfl,rfl⟩
  go_wp2_with fail
  go_ret3
  exact⟨rfl,rfl⟩
theorem rsh_none (op:Int)(hn:noKind op)(e1:(op == 167)=false)(e2:(op == 172)=false)(e3:(op == 173)=false):ShN 30 op:=by
 intro w
 have HK:=hid (fun W=>kind_none op W hn)
 clear hn
 go_enter Tryz.func30,Tryz.ntmps30
 go_wp2_with fail
 refine(HK.out _).mono ?_
 rintro e w' ⟨rfl,rfl⟩
 go_wp2_with fail
 go_ret3
 exact⟨rfl,rfl⟩
theorem rsh_0 (op n T:Int)(hk:KindIs op 0 n)(e1:(op == 167)=false)(e2:(op == 172)=false)(e3:(op == 173)=false)(hf:∀W,Calls Tryz.prog 65 #[.int .i64 n] W fun e w'=>e= .returned (.int .u8 T)/\W=w'):Sh1 30 op T 127:=by
 intro w
 have HK:=hid hk
 have HF:=hid hf
 clear hk hf
 go_enter Tryz.func30,Tryz.ntmps30
 go_wp2_with fail
 refine(HK.out _).mono ?_
 rintro e w' ⟨rfl,rfl⟩
 go_wp2_with fail
 refine(HF.out _).mono ?_
 rintro e w' ⟨rfl,rfl⟩
 go_wp2_with fail
 go_ret3
 exact⟨rfl,rfl⟩
theorem rsh_c (op k n T:Int)(hk:KindIs op k n)(k1:1<=k)(k2:k<=10)(e1:(op == 167)=false)(e2:(op == 172)=false)(e3:(op == 173)=false)(hf:∀W,Calls Tryz.prog 65 #[.int .i64 n] W fun e w'=>e= .returned (.int .u8 T)/\W=w'):Sh2 30 op T 127:=by
 intro w
 have HK:=hid hk
 have HF:=hid hf
 have e0:(k == 0)=false:=by simp;omega
 have d0:decide (k<0)=false:=by simp;omega
 clear hk hf
 go_enter Tryz.func30,Tryz.ntmps30
 go_wp2_with fail
 refine(HK.out _).mono ?_
 rintro e w' ⟨rfl,rfl⟩
 go_wp2_with fail
 refine(HF.out _).mono ?_
 rintro e w' ⟨rfl,rfl⟩
 go_wp2_with fail
 refine(HF.out _).mono ?_
 rintro e w' ⟨rfl,rfl⟩
 go_wp2_with fail
 go_ret3
 exact⟨rfl,rfl⟩
theorem rsh_1 (op k n T:Int)(hk:KindIs op k n)(k1:11<=k)(k2:k<=13)(e1:(op == 167)=false)(e2:(op == 172)=false)(e3:(op == 173)=false)(hf:∀W,Calls Tryz.prog 65 #[.int .i64 n] W fun e w'=>e= .returned (.int .u8 T)/\W=w'):Sh1 30 op T T:=by
 intro w
 have HK:=hid hk
 have HF:=hid hf
 have e0:(k == 0)=false:=by simp;omega
 have d0:decide (k<0)=false:=by simp;omega
 have d1:decide (k<=10)=false:=by simp;omega
 clear hk hf
 go_enter Tryz.func30,Tryz.ntmps30
 go_wp2_with fail
 refine(HK.out _).mono ?_
 rintro e w' ⟨rfl,rfl⟩
 go_wp2_with fail
 refine(HF.out _).mono ?_
 rintro e w' ⟨rfl,rfl⟩
 go_wp2_with fail
 refine(HF.out _).mono ?_
 rintro e w' ⟨rfl,rfl⟩
 go_wp2_with fail
 go_ret3
 exact⟨rfl,rfl⟩
theorem rsh_2 (op k n T:Int)(hk:KindIs op k n)(k1:14<=k)(e1:(op == 167)=false)(e2:(op == 172)=false)(e3:(op == 173)=false)(hf:∀W,Calls Tryz.prog 65 #[.int .i64 n] W fun e w'=>e= .returned (.int .u8 T)/\W=w'):Sh2 30 op T T:=by
 intro w
 have HK:=hid hk
 have HF:=hid hf
 have e0:(k == 0)=false:=by simp;omega
 have d0:decide (k<0)=false:=by simp;omega
 have d1:decide (k<=10)=false:=by simp;omega
 have d2:decide (k<=13)=false:=by simp;omega
 clear hk hf
 go_enter Tryz.func30,Tryz.ntmps30
 go_wp2_with fail
 refine(HK.out _).mono ?_
 rintro e w' ⟨rfl,rfl⟩
 go_wp2_with fail
 refine(HF.out _).mono ?_
 rintro e w' ⟨rfl,rfl⟩
 go_wp2_with fail
 refine(HF.out _).mono ?_
 rintro e w' ⟨rfl,rfl⟩
 go_wp2_with fail
 refine(HF.out _).mono ?_
 rintro e w' ⟨rfl,rfl⟩
 go_wp2_with fail
 go_ret3
 exact⟨rfl,rfl⟩
def opB (op:Int):Bool:=decide ((69<=op/\op<=90)\/(103<=op/\op<=138)\/op=167\/op=172\/op=173)
def ShIs (f:FuncId)(op:Int):Prop:=∀w,Calls Tryz.prog f #[.int .i64 op] w fun e w'=>∃A n T,e= .returned (.tuple #[.slice A n n,.int .u8 T,.bool (opB op)])/\Below w.heap.size w w'
theorem ShN.is {f:FuncId}{op:Int}(h:ShN f op)(ho:opB op=false):ShIs f op:=fun w=>(h w).mono fun e w' ⟨he,hw⟩=>by
 subst he hw
 rw[ho]
 exact⟨none,0,0,rfl,Below.refl _ _⟩
theorem Sh1.is {f:FuncId}{op T G:Int}(h:Sh1 f op T G)(ho:opB op=true):ShIs f op:=fun w=>(h w).mono fun e w' ⟨he,hw⟩=>by
 subst he hw
 rw[ho]
 exact⟨_,1,_,rfl,(Below.refl _ _).alloc (Nat.le_refl _) _⟩
theorem Sh2.is {f:FuncId}{op T G:Int}(h:Sh2 f op T G)(ho:opB op=true):ShIs f op:=fun w=>(h w).mono fun e w' ⟨he,hw⟩=>by
 subst he hw
 rw[ho]
 exact⟨_,2,_,rfl,(Below.refl _ _).alloc (Nat.le_refl _) _⟩
theorem opB_yes {op:Int}(h:(69<=op/\op<=90)\/(103<=op/\op<=138)\/op=167\/op=172\/op=173):opB op=true:=decide_eq_true h
theorem opB_no {op:Int}(h:¬ ((69<=op/\op<=90)\/(103<=op/\op<=138)\/op=167\/op=172\/op=173)):opB op=false:=decide_eq_false h
theorem rshape_is (op:Int):ShIs 30 op:=by
 by_cases a1:op=167
 ·subst a1;exact rsh_167.is (by decide)
 ·by_cases a2:op=172\/op=173
  ·exact (rsh_ext op a2).is (opB_yes (by omega))
  ·have e1:(op == 167)=false:=by simpa using a1
   have e2:(op == 172)=false:=by simp;omega
   have e3:(op == 173)=false:=by simp;omega
   by_cases hn:noKind op
   ·exact (rsh_none op hn e1 e2 e3).is (opB_no (by unfold noKind at hn;omega))
   ·unfold noKind at hn
    have ho:opB op=true:=opB_yes (by omega)
    have key:∀ (k n T:Int),0<=k->KindIs op k n->(∀W,Calls Tryz.prog 65 #[.int .i64 n] W fun e w'=>e= .returned (.int .u8 T)/\W=w')->ShIs 30 op:=by
     intro k n T k0 hk hf
     by_cases q0:k=0
     ·subst q0;exact(rsh_0 op n T hk e1 e2 e3 hf).is ho
     ·by_cases q1:k<=10
      ·exact (rsh_c op k n T hk (by omega) q1 e1 e2 e3 hf).is ho
      ·by_cases q2:k<=13
       ·exact (rsh_1 op k n T hk (by omega) q2 e1 e2 e3 hf).is ho
       ·exact (rsh_2 op k n T hk (by omega) e1 e2 e3 hf).is ho
    by_cases b1:op<=79
    ·exact key (op - 69) 32 127 (by omega) (fun w=>kind_a op w (by omega) b1) of_32
    ·by_cases b2:op<=90
     ·exact key (op - 80) 64 126 (by omega) (fun w=>kind_b op w (by omega) b2) of_64
     ·by_cases b3:op<=120
      ·exact key (op - 92) 32 127 (by omega) (fun w=>kind_c op w (by omega) b3) of_32
      ·exact key (op - 110) 64 126 (by omega) (fun w=>kind_d op w (by omega) (by omega)) of_64
end Go.Proofs.YtlappkflnlbfcaaGreatDoor.Ints
end
