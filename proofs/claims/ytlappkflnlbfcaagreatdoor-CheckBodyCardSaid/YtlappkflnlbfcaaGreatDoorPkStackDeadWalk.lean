/- StackGrowsWalk, StackLabelsWalk, StackDeadWalk. -/
import Derived.Test.YtlappkflnlbfcaaGreatDoorPkStkPlain
import Derived.Laws.Bits128
section
namespace Go.Proofs.YtlappkflnlbfcaaGreatDoor.Stk
open Go.RowKit Row9
set_option maxRecDepth 100000
set_option maxHeartbeats 8000000
set_option linter.unusedVariables false
def Yes (w:World)(e:Ending)(w':World):Prop:=e= .returned (.bool true)/\Below w.heap.size w w'
theorem StIs.rows {T:El CtV}{w:World}{P Q:Option Addr}{n c m d:Nat}{s:Stk}(h:StIs T w (.agg #[.slice P n c,.slice Q m d]) s):∃l,Row elB w (.slice P n c) s.vals/\Row T w (.slice Q m d) l/\l.map (·.1)=s.cs/\s.vals.length=n/\l.length=m/\s.cs.length=m:=by
 obtain⟨a,c',l,e,h2,h3,h4⟩:=h
 simp only[Value.agg.injEq,Array.mk.injEq,List.cons.injEq,and_true] at e
 obtain⟨rfl,rfl⟩:=e
 have e1:s.vals.length=n:=by
  obtain⟨A,k,e,_⟩:=h2.form
  injection e with _ e
  exact e.symm
 have e2:l.length=m:=by
  obtain⟨A,k,e,_⟩:=h3.form
  injection e with _ e
  exact e.symm
 exact⟨l,h2,h3,h4,e1,e2,by rw[<- h4,List.length_map,e2]⟩
theorem Label_st {v:Value}{s:Stk}{n:Int}{w:World}(h:StIs elP w v s)(hn:w64 n)(h2:s.cs.length<=400000)(hs:sane s=true):Calls Tryz.prog 157 #[v,.int .i64 n] w (LabTold (labelS s n) w):=by
 obtain⟨a,c,l,rfl,ha,hc,hl⟩:=h
 obtain⟨vals,cs⟩:=s
 subst hl
 exact Label_any ha hc hn (by simpa using h2) (fun p hp=>by
  have:=mayE_len ((sane_facts hs).1 p.1 (List.mem_map_of_mem hp)).2.2
  omega)
theorem LabTold.of {r:List Int×Int}{w w':World}{e:Ending}(h:LabTold r w e w'):∃P n c,e= .returned (.tuple #[.slice P n c,.int .i64 r.2])/\Row elB w' (.slice P n c) r.1/\r.1.length=n/\Below w.heap.size w w':=by
 obtain⟨⟨v,rfl,hv⟩,hb⟩:=h
 obtain⟨P,c,rfl,_⟩:=hv.form
 exact⟨P,_,c,rfl,hv,rfl,hb⟩
theorem zaH {w:World}{x:Nat}{a b:Value}{t:TypeId}(h:w.heap[x]? = some (.cells #[a,b] t (0,0))):w.cell? ⟨x,0,none⟩=some a/\w.cell? ⟨x,1,none⟩=some b:=⟨(zaA h 0).1,(zaA h 1).1⟩
theorem cells4 {w:World}{x:Nat}{a b c d:Value}{t:TypeId}(h:w.heap[x]? = some (.cells #[a,b,c,d] t (0,0))):w.cell? ⟨x,0,none⟩=some a/\w.cell? ⟨x,1,none⟩=some b/\w.cell? ⟨x,2,none⟩=some c/\w.cell? ⟨x,3,none⟩=some d:=⟨(zaA h 0).1,(zaA h 1).1,(zaA h 2).1,(zaA h 3).1⟩
theorem last_cases (cs:List Ctl):cs = []\/∃q c,cs=q ++ [c]:=by
 cases h:cs.getLast? with
 | none=>exact .inl (List.getLast?_eq_none_iff.1 h)
 | some c=>
  obtain⟨q,hq⟩:∃q,cs=q ++ [c]:=List.getLast?_eq_some_iff.1 h
  exact .inr ⟨q,c,hq⟩
end Go.Proofs.YtlappkflnlbfcaaGreatDoor.Stk
end
