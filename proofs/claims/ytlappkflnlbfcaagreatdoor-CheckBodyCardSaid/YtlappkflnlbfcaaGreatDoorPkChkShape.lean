import Derived.Test.YtlappkflnlbfcaaGreatDoorPkChkClose
import Derived.Test.YtlappkflnlbfcaaGreatDoorPkIntsAll
namespace Go.Proofs.YtlappkflnlbfcaaGreatDoor.Chk
open Go.RowKit Row9 Stk
set_option maxRecDepth 100000
set_option maxHeartbeats 1000000
set_option linter.unusedVariables false
theorem row_lit2 (w:World)(x y:Int)(h:0<=x/\x<256)(h':0<=y/\y<256):Row elB (w.alloc (.cells #[.int .u8 x,.int .u8 y] 5)) (.slice (some ⟨w.heap.size,0,none⟩) 2 2) [x,y]:=by
 have hh:=zaC w (.cells #[.int .u8 x,.int .u8 y] 5)
 refine⟨⟨_,2,rfl,Nat.le_refl _,by omega,fun _=>⟨w.heap.size,0,rfl,by rw[zaD];omega,fun j p hj=>?_⟩⟩,fun p hp=>?_⟩
 ·rcases j with _ | _ | j
  ·obtain rfl:=Option.some.inj hj
   intro i u hu
   rcases i with _ | i
   ·obtain rfl:=Option.some.inj hu
    exact(zaA hh 0).1
   ·simp[elB] at hu
  ·obtain rfl:=Option.some.inj hj
   intro i u hu
   rcases i with _ | i
   ·obtain rfl:=Option.some.inj hu
    exact(zaA hh 1).1
   ·simp[elB] at hu
  ·simp at hj
 ·simp only[List.mem_cons,List.not_mem_nil,or_false] at hp
  rcases hp with rfl | rfl
  ·exact h
  ·exact h'
def ShTold (f:FuncId)(op:Int):Prop:=∀w,Calls Tryz.prog f #[.int .i64 op] w fun e w'=>(∃P n c,e= .returned (.tuple #[.slice P n c,.int .u8 (shT op).2,.bool true])/\Row elB w' (.slice P n c) (shT op).1)/\Below w.heap.size w w'
theorem sh1_told {f:FuncId}{op T G:Int}(h:Ints.Sh1 f op T G)(e:shT op=([T],G))(hT:0<=T/\T<256):ShTold f op:=fun w=>(h w).mono fun en w' ⟨he,hw⟩=>by
 subst hw he
 rw[e]
 exact⟨⟨_,_,_,rfl,zaL w T hT⟩,zaB w _⟩
theorem sh2_told {f:FuncId}{op T G:Int}(h:Ints.Sh2 f op T G)(e:shT op=([T,T],G))(hT:0<=T/\T<256):ShTold f op:=fun w=>(h w).mono fun en w' ⟨he,hw⟩=>by
 subst hw he
 rw[e]
 exact⟨⟨_,_,_,rfl,row_lit2 w T T hT hT⟩,zaB w _⟩
theorem ne_b {a b:Int}(h:a≠b):(a == b)=false:=by simpa using h
theorem tk_t {l:Int}(h:l=69\/(103<=l/\l<=105)\/120<l):Ints.tkB l=true:=by
 unfold Ints.tkB
 rcases h with h | ⟨h,h'⟩ | h
 ·simp[h]
 ·simp[h,h']
 ·simp[h]
theorem tk_f {l:Int}(h1:l≠69)(h2:l<103\/105<l)(h3:l<=120):Ints.tkB l=false:=by
 unfold Ints.tkB
 simp[h1]
 omega
theorem fl_a {op:Int}(h:69<=op/\op<=79\/103<=op/\op<=120):Ints.famB op=true/\Ints.famT op=127/\Ints.famL op=op:=⟨decide_eq_true (by omega),if_pos (by omega),if_pos (by omega)⟩
theorem fl_b {op:Int}(h:80<=op/\op<=90):Ints.famB op=true/\Ints.famT op=126/\Ints.famL op=op - 11:=⟨decide_eq_true (by omega),(if_neg (by omega)).trans (if_pos (by omega)),(if_neg (by omega)).trans (if_pos (by omega))⟩
theorem fl_c {op:Int}(h:121<=op/\op<=138):Ints.famB op=true/\Ints.famT op=126/\Ints.famL op=op - 18:=⟨decide_eq_true (by omega),(if_neg (by omega)).trans (if_pos (by omega)),(if_neg (by omega)).trans ((if_neg (by omega)).trans (if_pos (by omega)))⟩
theorem gv_c {t l:Int}(h:l<=79):Ints.gvT t l=127:=if_pos (.inl h)
theorem gv_t {t l:Int}(h:79<l)(h2:l<167):Ints.gvT t l=t:=(if_neg (by omega)).trans (if_neg (by omega))
theorem shape_both (op:Int)(h:(69<=op/\op<=90)\/(103<=op/\op<=138)\/op=167\/op=172\/op=173):ShTold 126 op/\ShTold 30 op:=by
 have b7:0<=(127:Int)/\(127:Int)<256:=by omega
 have b6:0<=(126:Int)/\(126:Int)<256:=by omega
 by_cases ha:69<=op/\op<=79
 ·obtain ⟨f1,f2,f3⟩:=fl_a (.inl ha)
  have hk:Ints.KindIs op (op - 69) 32:=fun W=>Ints.kind_a op W ha.1 ha.2
  by_cases h0:op=69
  ·subst h0
   exact⟨sh1_told (Ints.shape_one 69 127 127 f1 (by rw[f3];decide) f2 (by rw[f3];decide)) rfl b7,sh1_told (Ints.rsh_0 69 32 127 hk (by decide) (by decide) (by decide) Ints.of_32) rfl b7⟩
  ·have e:shT op=([127,127],127):=by unfold shT;rw[if_neg h0,if_pos (by omega)]
   exact⟨sh2_told (Ints.shape_two op 127 127 f1 (by rw[f3];exact tk_f h0 (by omega) (by omega)) f2 (by rw[f3];exact gv_c (by omega))) e b7,sh2_told (Ints.rsh_c op (op - 69) 32 127 hk (by omega) (by omega) (ne_b (by omega)) (ne_b (by omega)) (ne_b (by omega)) Ints.of_32) e b7⟩
 ·by_cases hb:80<=op/\op<=90
  ·obtain ⟨f1,f2,f3⟩:=fl_b hb
   have hk:Ints.KindIs op (op - 80) 64:=fun W=>Ints.kind_b op W hb.1 hb.2
   by_cases h0:op=80
   ·subst h0
    exact⟨sh1_told (Ints.shape_one 80 126 127 f1 (by rw[f3];decide) f2 (by rw[f3];decide)) rfl b6,sh1_told (Ints.rsh_0 80 64 126 hk (by decide) (by decide) (by decide) Ints.of_64) rfl b6⟩
   ·have e:shT op=([126,126],127):=by unfold shT;rw[if_neg (by omega),if_neg (by omega),if_neg h0,if_pos (by omega)]
    exact⟨sh2_told (Ints.shape_two op 126 127 f1 (by rw[f3];exact tk_f (by omega) (by omega) (by omega)) f2 (by rw[f3];exact gv_c (by omega))) e b6,sh2_told (Ints.rsh_c op (op - 80) 64 126 hk (by omega) (by omega) (ne_b (by omega)) (ne_b (by omega)) (ne_b (by omega)) Ints.of_64) e b6⟩
  ·by_cases hc:103<=op/\op<=120
   ·obtain ⟨f1,f2,f3⟩:=fl_a (.inr hc)
    have hk:Ints.KindIs op (op - 92) 32:=fun W=>Ints.kind_c op W hc.1 hc.2
    by_cases h0:op<=105
    ·have e:shT op=([127],127):=by unfold shT;rw[if_neg (by omega),if_neg (by omega),if_neg (by omega),if_neg (by omega),if_pos (by omega)]
     exact⟨sh1_told (Ints.shape_one op 127 127 f1 (by rw[f3];exact tk_t (by omega)) f2 (by rw[f3];exact gv_t (by omega) (by omega))) e b7,sh1_told (Ints.rsh_1 op (op - 92) 32 127 hk (by omega) (by omega) (ne_b (by omega)) (ne_b (by omega)) (ne_b (by omega)) Ints.of_32) e b7⟩
    ·have e:shT op=([127,127],127):=by unfold shT;rw[if_neg (by omega),if_neg (by omega),if_neg (by omega),if_neg (by omega),if_neg (by omega),if_pos (by omega)]
     exact⟨sh2_told (Ints.shape_two op 127 127 f1 (by rw[f3];exact tk_f (by omega) (by omega) (by omega)) f2 (by rw[f3];exact gv_t (by omega) (by omega))) e b7,sh2_told (Ints.rsh_2 op (op - 92) 32 127 hk (by omega) (ne_b (by omega)) (ne_b (by omega)) (ne_b (by omega)) Ints.of_32) e b7⟩
   ·by_cases hd:121<=op/\op<=138
    ·obtain ⟨f1,f2,f3⟩:=fl_c hd
     have hk:Ints.KindIs op (op - 110) 64:=fun W=>Ints.kind_d op W hd.1 hd.2
     by_cases h0:op<=123
     ·have e:shT op=([126],126):=by unfold shT;rw[if_neg (by omega),if_neg (by omega),if_neg (by omega),if_neg (by omega),if_neg (by omega),if_neg (by omega),if_pos (by omega)]
      exact⟨sh1_told (Ints.shape_one op 126 126 f1 (by rw[f3];exact tk_t (by omega)) f2 (by rw[f3];exact gv_t (by omega) (by omega))) e b6,sh1_told (Ints.rsh_1 op (op - 110) 64 126 hk (by omega) (by omega) (ne_b (by omega)) (ne_b (by omega)) (ne_b (by omega)) Ints.of_64) e b6⟩
     ·have e:shT op=([126,126],126):=by unfold shT;rw[if_neg (by omega),if_neg (by omega),if_neg (by omega),if_neg (by omega),if_neg (by omega),if_neg (by omega),if_neg (by omega),if_pos (by omega)]
      exact⟨sh2_told (Ints.shape_two op 126 126 f1 (by rw[f3];exact tk_f (by omega) (by omega) (by omega)) f2 (by rw[f3];exact gv_t (by omega) (by omega))) e b6,sh2_told (Ints.rsh_2 op (op - 110) 64 126 hk (by omega) (ne_b (by omega)) (ne_b (by omega)) (ne_b (by omega)) Ints.of_64) e b6⟩
    ·by_cases h7:op=167
     ·subst h7
      exact⟨sh1_told (Ints.shape_one 167 126 127 (by decide) (by decide) (by decide) (by decide)) rfl b6,sh1_told Ints.rsh_167 rfl b6⟩
     ·have he:op=172\/op=173:=by omega
      refine⟨sh1_told (T:=127) (G:=126) (Ints.shape_one op 127 126 ?_ ?_ ?_ ?_) ?_ b7,sh1_told (Ints.rsh_ext op he) ?_ b7⟩ <;> (rcases he with rfl | rfl <;> decide)
end Go.Proofs.YtlappkflnlbfcaaGreatDoor.Chk
