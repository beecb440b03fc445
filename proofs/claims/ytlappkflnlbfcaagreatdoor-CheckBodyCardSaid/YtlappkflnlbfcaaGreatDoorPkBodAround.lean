/- BodMAt, BodAround. -/
import Derived.Test.YtlappkflnlbfcaaGreatDoorPkBodNest
import Derived.Deep.Slices
section
namespace Go.Proofs.YtlappkflnlbfcaaGreatDoor.Bod
open Go.RowKit
set_option maxRecDepth 100000
set_option maxHeartbeats 1000000
set_option linter.unusedVariables false
def c2 (p:Int×Int):List Value:=[.int .i64 p.1,.int .i64 p.2]
theorem flat2:∀ (l:List (Int×Int))(j i:Nat)(p:Int×Int),l[j]? = some p->i<2->(l.flatMap c2)[j*2+i]? = (c2 p)[i]?
 | [],j,i,p,h,_=>by simp at h
 | q :: l,0,i,p,h,hi=>by
  simp at h
  subst h
  rw[List.flatMap_cons,Nat.zero_mul,Nat.zero_add,List.getElem?_append_left (by simp[c2];omega)]
 | q :: l,j+1,i,p,h,hi=>by
  rw[List.getElem?_cons_succ] at h
  rw[List.flatMap_cons,List.getElem?_append_right (by simp[c2];omega),show (j+1)*2+i - (c2 q).length=j*2+i from by simp[c2];omega]
  exact flat2 l j i p h hi
theorem flat2_set:∀ (l:List (Int×Int))(j:Nat)(a b:Int),((l.flatMap c2).set (j*2) (.int .i64 a)).set (j*2+1) (.int .i64 b)=if j<l.length then (l.set j (a,b)).flatMap c2 else l.flatMap c2
 | [],j,a,b=>by simp
 | q :: l,0,a,b=>by simp[c2]
 | q :: l,j+1,a,b=>by
  have ih:=flat2_set l j a b
  have e1:(j+1)*2=(j*2+1)+1:=by omega
  rw[List.flatMap_cons,e1]
  show ((c2 q ++ List.flatMap c2 l).set (j*2+1+1) _).set (j*2+1+1+1) _=_
  simp only[c2,List.cons_append,List.nil_append,List.set_cons_succ]
  rw[ih]
  by_cases h:j<l.length
  ·rw[if_pos h,if_pos (by simp;omega)]
   simp[c2]
  ·rw[if_neg h,if_neg (by simp;omega)]
def MAt (w:World)(B g n:Nat)(ms:List (Int×Int)):Prop:=ms.length=n/\w.ownsRow B 136 2 (.slice (some ⟨g,0,none⟩) n n) n (ms.flatMap c2)
def UAt (w:World)(B g n:Nat)(us:List Bool):Prop:=us.length=n/\w.ownsRow B 4 1 (.slice (some ⟨g,0,none⟩) n n) n (us.map .bool)
theorem own_keep {w w':World}{B e s n:Nat}{v:Value}{xs:List Value}(h:w.ownsRow B e s v n xs)(hb:Below w.heap.size w w'):w'.ownsRow B e s v n xs:=by
 obtain⟨h1,h2⟩:=h
 refine⟨h1,?_⟩
 rcases h2 with h2 | ⟨g,cap,cur,hv,hB,hc,hle,hm,hsz,ht⟩
 ·exact .inl h2
 ·refine .inr ⟨g,cap,cur,hv,hB,?_,hle,hm,hsz,ht⟩
  rw[hb.block g (Array.getElem?_eq_some_iff.1 hc).1]
  exact hc
theorem MAt.keep {w w':World}{B g n:Nat}{ms:List (Int×Int)}(h:MAt w B g n ms)(hb:Below w.heap.size w w'):MAt w' B g n ms:=⟨h.1,own_keep h.2 hb⟩
theorem UAt.keep {w w':World}{B g n:Nat}{us:List Bool}(h:UAt w B g n us)(hb:Below w.heap.size w w'):UAt w' B g n us:=⟨h.1,own_keep h.2 hb⟩
theorem MAt.put {w:World}{B g n:Nat}{ms:List (Int×Int)}(h:MAt w B g n ms)(j:Nat)(hj:j<n)(a b:Int):MAt ((w.setCell ⟨g,j*2,none⟩ (.int .i64 a)).setCell ⟨g,j*2+1,none⟩ (.int .i64 b)) B g n (ms.set j (a,b)):=by
 refine⟨by rw[List.length_set];exact h.1,?_⟩
 have h1:=(h.2.stored (j*2) (.int .i64 a)).1
 have h2:=(h1.stored (j*2+1) (.int .i64 b)).1
 rw[flat2_set,if_pos (by rw[h.1];exact hj)] at h2
 exact h2
theorem UAt.put {w:World}{B g n:Nat}{us:List Bool}(h:UAt w B g n us)(j:Nat)(b:Bool):UAt (w.setCell ⟨g,j,none⟩ (.bool b)) B g n (us.set j b):=by
 refine⟨by rw[List.length_set];exact h.1,?_⟩
 have h1:=(h.2.stored j (.bool b)).1
 rw[<- List.map_set] at h1
 exact h1
theorem MAt.other {w:World}{B g n:Nat}{ms:List (Int×Int)}(h:MAt w B g n ms){g':Nat}(hg:g≠g')(o:Nat)(u:Value):MAt (w.setCell ⟨g',o,none⟩ u) B g n ms:=⟨h.1,ownsRow_setCell_other h.2 (by simp[Value.ownBlock];omega) u⟩
theorem UAt.other {w:World}{B g n:Nat}{us:List Bool}(h:UAt w B g n us){g':Nat}(hg:g≠g')(o:Nat)(u:Value):UAt (w.setCell ⟨g',o,none⟩ u) B g n us:=⟨h.1,ownsRow_setCell_other h.2 (by simp[Value.ownBlock];omega) u⟩
theorem MAt.cells {w:World}{B g n:Nat}{ms:List (Int×Int)}(h:MAt w B g n ms){j:Nat}(hj:j<n):w.cell? ⟨g,j*2,none⟩=some (.int .i64 (ms.getD j (0,0)).1)/\w.cell? ⟨g,j*2+1,none⟩=some (.int .i64 (ms.getD j (0,0)).2):=by
 obtain⟨p,hp⟩:∃p,ms[j]? = some p:=⟨_,List.getElem?_eq_getElem (by rw[h.1];exact hj)⟩
 rw[List.getD_eq_getElem?_getD,hp,h.2.cellAt (j*2) (by omega),h.2.cellAt (j*2+1) (by omega)]
 have a:=flat2 ms j 0 p hp (by decide)
 have b:=flat2 ms j 1 p hp (by decide)
 rw[Nat.add_zero] at a
 rw[a,b]
 exact⟨rfl,rfl⟩
theorem UAt.cell {w:World}{B g n:Nat}{us:List Bool}(h:UAt w B g n us){j:Nat}(hj:j<n):w.cell? ⟨g,j,none⟩=some (.bool (us.getD j false)):=by
 obtain⟨p,hp⟩:∃p,us[j]? = some p:=⟨_,List.getElem?_eq_getElem (by rw[h.1];exact hj)⟩
 rw[List.getD_eq_getElem?_getD,hp,h.2.cellAt j (by omega),List.getElem?_map,hp]
 rfl
theorem MAt.free {w:World}{B g n:Nat}{ms:List (Int×Int)}(h:MAt w B g n ms)(j:Nat):w.frozen? ⟨g,j,none⟩=false:=h.2.frozenAt j
theorem UAt.free {w:World}{B g n:Nat}{us:List Bool}(h:UAt w B g n us)(j:Nat):w.frozen? ⟨g,j,none⟩=false:=h.2.frozenAt j
theorem MAt.lt {w:World}{B g n:Nat}{ms:List (Int×Int)}(h:MAt w B g n ms):B<=g/\g<w.heap.size:=h.2.lt g rfl
theorem MAt.two {w:World}{B g n:Nat}{ms:List (Int×Int)}(h:MAt w B g n ms){j:Nat}(hj:j<n)(u:Value):((∃x,w.cell? ⟨g,j*2,none⟩=some x)/\w.frozen? ⟨g,j*2,none⟩=false)/\(∃x,(w.setCell ⟨g,j*2,none⟩ u).cell? ⟨g,j*2+1,none⟩=some x)/\(w.setCell ⟨g,j*2,none⟩ u).frozen? ⟨g,j*2+1,none⟩=false:=by
 have h1:=(h.2.stored (j*2) u).1
 refine⟨⟨⟨_,(h.cells hj).1⟩,h.free _⟩,⟨.int .i64 (ms.getD j (0,0)).2,?_⟩,h1.frozenAt _⟩
 have e:=(h.cells hj).2
 rw[h.2.cellAt (j*2+1) (by omega)] at e
 rw[h1.cellAt (j*2+1) (by omega),List.getElem?_set_ne (by omega)]
 exact e
theorem match_info:(Tryz.prog.info? 136).map (fun i=>(i.zero,i.size,i.bytes))=some (some (.agg #[.int .i64 0,.int .i64 0]),2,16):=by kernel_rfl
theorem bool_info:(Tryz.prog.info? 4).map (fun i=>(i.zero,i.size,i.bytes))=some (some (.bool false),1,1):=by kernel_rfl
theorem made_two (z:Value)(n:Nat):(madeCells #[z,z] n).toList=List.replicate n z:=by
 apply List.ext_getElem
 ·simp[madeCells]
 ·intro i h1 h2
  have h:i % 2<2:=Nat.mod_lt _ (by decide)
  simp only[madeCells,Array.getElem_toList,Array.getElem_map,Array.getElem_range,List.getElem_replicate]
  show #[z,z][i % 2]! = z
  rcases (by omega:i % 2=0\/i % 2=1) with e | e <;> rw[e] <;> rfl
theorem flat_zero:∀n,(List.replicate n ((0:Int),(0:Int))).flatMap c2=List.replicate (n*2) (.int .i64 0)
 | 0=>rfl
 | n+1=>by
  rw[List.replicate_succ,List.flatMap_cons,flat_zero n,show (n+1)*2=n*2+1+1 from by omega,List.replicate_succ,List.replicate_succ]
  rfl
theorem make_M (w:World)(B n:Nat)(hn:n<=100000)(hB:B<=w.heap.size):∃w' g,(Instr.makeSlice 100 (.int .i64 (n:Int)) (.int .i64 (n:Int))).run Tryz.prog w= .ok (.slice (some ⟨g,0,none⟩) n n) w'/\MAt w' B g n (List.replicate n (0,0))/\w.grownBy w' none/\w.heap.size<=g:=by
 obtain⟨i,hi,hz0,hz1,hz2⟩:=info_parts match_info
 obtain⟨w',h1,h2,h3⟩:=run_make_full (P:=Tryz.prog) w B 100 136 i _ 2 Tryz.underlying100 hi hz0 hz1 .i64 .i64 n (by rw[hz2];omega) (by unfold maxLen;omega) hB
 refine⟨w',_,h1,⟨by simp,?_⟩,h3,Nat.le_refl _⟩
 have e:(madeCells (Value.agg #[.int .i64 0,.int .i64 0]).cells (n*2)).toList=(List.replicate n ((0:Int),(0:Int))).flatMap c2:=by
  rw[flat_zero]
  exact made_two (.int .i64 0) (n*2)
 rw[e] at h2
 exact h2
theorem make_U (w:World)(B n:Nat)(hn:n<=100000)(hB:B<=w.heap.size):∃w' g,(Instr.makeSlice 134 (.int .i64 (n:Int)) (.int .i64 (n:Int))).run Tryz.prog w= .ok (.slice (some ⟨g,0,none⟩) n n) w'/\UAt w' B g n (List.replicate n false)/\w.grownBy w' none/\w.heap.size<=g:=by
 obtain⟨i,hi,hz0,hz1,hz2⟩:=info_parts bool_info
 obtain⟨w',h1,h2,h3⟩:=run_make_full (P:=Tryz.prog) w B 134 4 i _ 1 Tryz.underlying134 hi hz0 hz1 .i64 .i64 n (by rw[hz2];omega) (by unfold maxLen;omega) hB
 refine⟨w',_,h1,⟨by simp,?_⟩,h3,Nat.le_refl _⟩
 rw[show (Value.bool false).cells=#[Value.bool false] from rfl,Nat.mul_one,toList_madeCells_one] at h2
 simpa using h2
end Go.Proofs.YtlappkflnlbfcaaGreatDoor.Bod
end
section
namespace Go.Proofs.YtlappkflnlbfcaaGreatDoor.Bod
set_option maxRecDepth 100000
set_option maxHeartbeats 1000000
set_option linter.unusedVariables false
def sAt (ops:List Int)(p:Nat):Stk:=(st ops p).getD []
def sIn (ops:List Int)(p:Nat):Stk:=if ops.getD p 0=5\/ops.getD p 0=11 then (sAt ops p).tail else sAt ops p
end Go.Proofs.YtlappkflnlbfcaaGreatDoor.Bod
end
