/- StkGrown, StkPlain. -/
import Derived.Test.YtlappkflnlbfcaaGreatDoorPkStkActs
import Derived.Deep.RegionLaw
section
namespace Go.Proofs.YtlappkflnlbfcaaGreatDoor.Stk
open Go.RowKit Row9
set_option maxRecDepth 100000
set_option maxHeartbeats 20000000
set_option linter.unusedVariables false
theorem StIs.form {T:El CtV}{w:World}{v:Value}{s:Stk}(h:StIs T w v s):∃P n c Q m d,v= .agg #[.slice P n c,.slice Q m d]:=by
 obtain⟨a,c,l,rfl,ha,hc,hl⟩:=h
 obtain⟨P,k,rfl,_⟩:=ha.form
 obtain⟨Q,d,rfl,_⟩:=hc.form
 exact⟨_,_,_,_,_,_,rfl⟩
theorem OpTold.of {r:Stk×Int}{w w':World}{e:Ending}(h:OpTold r w e w'):∃P n c Q m d,e= .returned (.tuple #[.agg #[.slice P n c,.slice Q m d],.int .i64 r.2])/\StIs elP w' (.agg #[.slice P n c,.slice Q m d]) r.1/\Below w.heap.size w w':=by
 obtain⟨⟨v,rfl,hv⟩,hb⟩:=h
 obtain⟨P,n,c,Q,m,d,rfl⟩:=hv.form
 exact⟨P,n,c,Q,m,d,rfl,hv,hb⟩
theorem PopEnds.of {r:Stk×Int×Int}{w w':World}{e:Ending}(h:PopEnds r w e w'):∃P n c Q m d,e= .returned (.tuple #[.agg #[.slice P n c,.slice Q m d],.int .u8 r.2.1,.int .i64 r.2.2])/\StIs elP w' (.agg #[.slice P n c,.slice Q m d]) r.1/\Below w.heap.size w w':=by
 obtain⟨⟨v,rfl,hv⟩,hb⟩:=h
 obtain⟨P,n,c,Q,m,d,rfl⟩:=hv.form
 exact⟨P,n,c,Q,m,d,rfl,hv,hb⟩
theorem Push_st {v x:Value}{s:Stk}{xs:List Int}{w:World}(h:StIs elP w v s)(hx:Row elB w x xs)(h1:s.vals.length<=400000)(h2:s.cs.length<=400000)(h3:xs.length<=400000):Calls Tryz.prog 150 #[v,x] w (OpTold (pushS s xs) w):=by
 obtain⟨a,c,l,rfl,ha,hc,hl⟩:=h
 rw[pushS_is]
 obtain⟨vals,cs⟩:=s
 subst hl
 exact Push_any ha hc hx h3 h1 (by simpa using h2)
theorem Want_st {v x:Value}{s:Stk}{xs:List Int}{w:World}(h:StIs elP w v s)(hx:Row elB w x xs)(h1:s.vals.length<=400000)(h2:s.cs.length<=400000)(h3:xs.length<=400000):Calls Tryz.prog 152 #[v,x] w (OpTold (wantS s xs) w):=by
 obtain⟨a,c,l,rfl,ha,hc,hl⟩:=h
 rw[wantS_is]
 obtain⟨vals,cs⟩:=s
 subst hl
 exact Want_any ha hc hx h3 h1 (by simpa using h2)
theorem Open_st {v x:Value}{s:Stk}{xs:List Int}{op:Int}{w:World}(h:StIs elP w v s)(hx:Row elB w x xs)(ho:w64 op)(h1:s.vals.length<=400000)(h2:s.cs.length<=400000)(h3:xs.length<=400000):Calls Tryz.prog 111 #[v,.int .i64 op,x] w (OpTold (openS s op xs) w):=by
 obtain⟨a,c,l,rfl,ha,hc,hl⟩:=h
 rw[openS_is]
 obtain⟨vals,cs⟩:=s
 subst hl
 exact Open_any ha hc hx h3 ho h1 (by simpa using h2)
theorem Kill_st {v:Value}{s:Stk}{w:World}(h:StIs elP w v s)(h1:s.vals.length<=400000)(h2:s.cs.length<=400000):Calls Tryz.prog 149 #[v] w (OpTold (killS s) w):=by
 obtain⟨a,c,l,rfl,ha,hc,hl⟩:=h
 rw[killS_is]
 obtain⟨vals,cs⟩:=s
 subst hl
 exact Kill_any ha hc h1 (by simpa using h2)
theorem Pop_st {v:Value}{s:Stk}{w:World}(h:StIs elP w v s)(h1:s.vals.length<=400000)(h2:s.cs.length<=400000):Calls Tryz.prog 153 #[v] w (PopEnds (popS s) w):=by
 obtain⟨a,c,l,rfl,ha,hc,hl⟩:=h
 obtain⟨vals,cs⟩:=s
 subst hl
 exact Pop_any ha hc h1 (by simpa using h2)
theorem Close_st {v:Value}{s:Stk}{w:World}(h:StIs elP w v s)(h1:s.vals.length<=400000)(h2:s.cs.length<=400000):Calls Tryz.prog 52 #[v] w (CloseEnds (zaM s) w):=by
 obtain⟨a,c,l,rfl,ha,hc,hl⟩:=h
 obtain⟨vals,cs⟩:=s
 subst hl
 exact Close_any ha hc h1 (by simpa using h2)
theorem Sane_st {v:Value}{s:Stk}{w:World}(h:StIs elP w v s):Calls Tryz.prog 26 #[v] w fun e w'=>e= .returned (.bool (sane s))/\Below w.heap.size w w':=by
 obtain⟨a,c,l,rfl,ha,hc,hl⟩:=h
 obtain⟨vals,cs⟩:=s
 subst hl
 exact sane_any ha hc
theorem act_push {s:Stk}{a:Act9}(h:a.what=0\/a.what=1):act s a=pushS s a.L:=by unfold act;rw[if_pos h]
theorem act_pop {s:Stk}{a:Act9}(h:a.what=2):act s a=((popS s).1,(popS s).2.2):=by unfold act;rw[if_neg (by omega),if_pos h]
theorem act_want {s:Stk}{a:Act9}(h:a.what=3\/a.what=4):act s a=wantS s a.L:=by unfold act;rw[if_neg (by omega),if_neg (by omega),if_pos h]
theorem act_open {s:Stk}{a:Act9}(h:a.what=5):act s a=openS s a.op a.L:=by unfold act;rw[if_neg (by omega),if_neg (by omega),if_neg (by omega),if_pos h]
theorem act_close {s:Stk}{a:Act9}(h:a.what=6):act s a=((zaM s).1,(zaM s).2.2):=by unfold act;rw[if_neg (by omega),if_neg (by omega),if_neg (by omega),if_neg (by omega),if_pos h]
theorem act_kill {s:Stk}{a:Act9}(h:a.what=7):act s a=killS s:=by unfold act;rw[if_neg (by omega),if_neg (by omega),if_neg (by omega),if_neg (by omega),if_neg (by omega),if_pos h]
theorem sgo_append:∀ (a b:List Ctl)(h:Int),sgo h (a ++ b)=match sgo h a with | none=>none | some h'=>sgo h' b
 | [],b,h=>rfl
 | c :: a,b,h=>by
  rw[List.cons_append,sgo,sgo]
  split
  ·exact sgo_append a b c.ht
  ·rfl
theorem sane_iff (s:Stk):sane s=true↔∃h,sgo 0 s.cs=some h/\h<=s.vals.length/\s.vals.any noT=false:=by
 unfold sane
 cases sgo 0 s.cs with
 | none=>simp
 | some h=>simp
theorem sgo_last {cs:List Ctl}{c:Ctl}{h:Int}(e:sgo 0 cs=some h)(hc:cs.getLast? = some c):c.ht=h:=(sgo_le cs 0 h e).2.2 c hc
theorem sgo_drop {cs:List Ctl}{h:Int}(e:sgo 0 cs=some h):∃h',sgo 0 cs.dropLast=some h'/\h'<=h:=by
 cases hl:cs.getLast? with
 | none=>
  rw[List.getLast?_eq_none_iff.1 hl] at e ⊢
  exact⟨h,e,Int.le_refl _⟩
 | some c=>
  obtain⟨q,rfl⟩:∃q,cs=q ++ [c]:=List.getLast?_eq_some_iff.1 hl
  rw[sgo_append] at e
  rw[List.dropLast_concat]
  cases hq:sgo 0 q with
  | none=>rw[hq] at e;cases e
  | some h'=>
   rw[hq] at e
   exact⟨h',rfl,(sgo_le [c] h' h e).1⟩
theorem any_take {l:List Int}{n:Nat}(h:l.any noT=false):(l.take n).any noT=false:=by
 rw[List.any_eq_false] at h ⊢
 exact fun x hx=>h x (List.mem_of_mem_take hx)
theorem popV_sane {cs:List Ctl}{vals vs:List Int}{v:Int}(hs:sane ⟨vals,cs⟩=true)(h:popV cs.getLast? vals=some (vs,v)):sane ⟨vs,cs⟩=true:=by
 rw[sane_iff] at hs ⊢
 obtain⟨h0,e,hl,ha⟩:=hs
 refine⟨h0,e,?_⟩
 unfold popV at h
 split at h
 ·cases h
 ·rename_i c hc
  have hh:=sgo_last e hc
  split at h
  ·simp only[Option.some.injEq,Prod.mk.injEq] at h
   rw[<- h.1]
   show h0<=(vals.dropLast.length:Int)/\vals.dropLast.any noT=false
   rw[List.dropLast_eq_take]
   refine⟨?_,any_take ha⟩
   rw[List.length_take]
   omega
  ·split at h
   ·simp only[Option.some.injEq,Prod.mk.injEq] at h
    rw[<- h.1]
    exact⟨hl,ha⟩
   ·cases h
theorem wantV_sane:∀ (r:List Int){cs:List Ctl}{vals vs:List Int},sane ⟨vals,cs⟩=true->wantV cs.getLast? vals r=some vs->sane ⟨vs,cs⟩=true
 | [],cs,vals,vs,hs,h=>by
  obtain rfl:vals=vs:=Option.some.inj h
  exact hs
 | x :: r,cs,vals,vs,hs,h=>by
  rw[wantV] at h
  split at h
  ·cases h
  ·rename_i vs1 v hp
   split at h
   ·exact wantV_sane r (popV_sane hs hp) h
   ·cases h
theorem made_sane {s s':Stk}{e0:Int}(h:(made s e0 s').2=0):sane s=true/\e0=0/\(made s e0 s').1=s':=by
 unfold made at h ⊢
 split
 ·rename_i hs
  rw[if_pos hs] at h
  exact absurd h (by decide)
 ·rename_i hs
  rw[if_neg hs] at h
  split
  ·rename_i he
   exact⟨by simpa using hs,he,rfl⟩
  ·rename_i he
   rw[if_neg he] at h
   exact absurd h he
theorem act_sane (s:Stk)(a:Act9)(hs:sane s=true)(h:(act s a).2=0):sane (act s a).1=true:=by
 have hs':=hs
 rw[sane_iff] at hs'
 obtain⟨h0,e,hl,ha⟩:=hs'
 unfold act at h ⊢
 split
 ·rename_i hw
  rw[if_pos hw,pushS_is] at h
  rw[pushS_is]
  obtain⟨h1,h2,h3⟩:=made_sane h
  rw[h3,sane_iff]
  have hp:a.L.any noT=false:=by
   unfold pe at h2
   cases hq:a.L.any noT with
   | false=>rfl
   | true=>rw[hq] at h2;exact absurd h2 (by decide)
  exact⟨h0,e,by show h0<=((s.vals ++ a.L).length:Int);rw[List.length_append];omega,by show (s.vals ++ a.L).any noT=false;rw[List.any_append,ha,hp];rfl⟩
 ·rename_i hw
  rw[if_neg hw] at h
  split
  ·rename_i hw
   rw[if_pos hw,popS_is] at h
   rw[popS_is]
   unfold popMade at h ⊢
   rw[if_neg (by rw[hs];decide)] at h ⊢
   cases hp:popV s.cs.getLast? s.vals with
   | none=>rw[hp] at h;exact absurd (show (5:Int)=0 from h) (by decide)
   | some pr=>
    obtain⟨vs,v⟩:=pr
    exact popV_sane (vals:=s.vals) (cs:=s.cs) hs hp
  ·rename_i hw
   rw[if_neg hw] at h
   split
   ·rename_i hw
    rw[if_pos hw,wantS_is] at h
    rw[wantS_is]
    obtain⟨h1,h2,h3⟩:=made_sane h
    rw[h3]
    cases hq:wantV s.cs.getLast? s.vals a.L.reverse with
    | none=>rw[hq] at h2;exact absurd h2 (by decide)
    | some vs=>exact wantV_sane _ (vals:=s.vals) (cs:=s.cs) hs hq
   ·rename_i hw
    rw[if_neg hw] at h
    split
    ·rename_i hw
     rw[if_pos hw,openS_is] at h
     rw[openS_is]
     obtain⟨h1,h2,h3⟩:=made_sane h
     rw[h3,sane_iff]
     have hp:mayE a.L=true:=by
      unfold oe at h2
      cases hq:mayE a.L with
      | true=>rfl
      | false=>rw[hq] at h2;exact absurd h2 (by decide)
     refine⟨s.vals.length,?_,Int.le_refl _,ha⟩
     show sgo 0 (s.cs ++ [⟨a.op,a.L,s.vals.length,false⟩])=_
     rw[sgo_append,e]
     show sgo h0 [⟨a.op,a.L,s.vals.length,false⟩]=_
     rw[sgo,if_pos (by rw[hp];simp;exact hl)]
     rfl
    ·rename_i hw
     rw[if_neg hw] at h
     split
     ·rename_i hw
      rw[if_pos hw,closeS_is] at h
      rw[closeS_is]
      unfold closeMade at h ⊢
      rw[if_neg (by rw[hs];decide)] at h ⊢
      cases hq:closeV s.vals s.cs with
      | none=>rw[hq] at h;exact absurd (show (5:Int)=0 from h) (by decide)
      | some pr=>
       obtain⟨vs,c⟩:=pr
       unfold closeV at hq
       split at hq
       ·cases hq
       ·rename_i c' hc
        split at hq
        ·cases hq
        ·rename_i vs' hw'
         split at hq
         ·cases hq
         ·rename_i hlen
          simp only[Option.some.injEq,Prod.mk.injEq] at hq
          obtain⟨rfl,rfl⟩:=hq
          rw[<- hc] at hw'
          have hsv:=wantV_sane _ (vals:=s.vals) (cs:=s.cs) hs hw'
          rw[sane_iff] at hsv ⊢
          obtain⟨h1,e1,hl1,ha1⟩:=hsv
          obtain⟨h2,e2,hle⟩:=sgo_drop e1
          exact⟨h2,e2,Int.le_trans hle hl1,ha1⟩
     ·rename_i hw
      rw[if_neg hw] at h
      split
      ·rename_i hw
       rw[if_pos hw,killS_is] at h
       rw[killS_is]
       obtain⟨h1,h2,h3⟩:=made_sane h
       rw[h3]
       cases hc:s.cs.getLast? with
       | none=>unfold ke at h2;rw[hc] at h2;exact absurd h2 (by decide)
       | some c=>
        obtain⟨q,hq⟩:∃q,s.cs=q ++ [c]:=List.getLast?_eq_some_iff.1 hc
        have hh:=sgo_last e hc
        have hz:=(sane_facts hs).1 c (by rw[hq];simp)
        rw[sane_iff]
        refine⟨h0,?_,?_,any_take ha⟩
        ·show sgo 0 (s.cs.dropLast ++ kd s.cs)=_
         rw[hq] at e ⊢
         unfold kd
         rw[List.getLast?_concat,List.dropLast_concat,sgo_append]
         rw[sgo_append] at e
         cases hqq:sgo 0 q with
         | none=>rw[hqq] at e;cases e
         | some h'=>rw[hqq] at e;exact e
        ·show h0<=((s.vals.take (kh s.cs)).length:Int)
         unfold kh
         rw[hc,List.length_take]
         simp only
         omega
      ·rename_i hw
       rw[if_neg hw] at h
       exact absurd (show (1:Int)=0 from h) (by decide)
theorem killS_last {s:Stk}{q:List Ctl}{c:Ctl}(hs:sane s=true)(h:s.cs=q ++ [c]):killS s=(⟨s.vals.take c.ht.toNat,q ++ [{ c with dead:=true }]⟩,0):=by
 unfold killS
 rw[if_neg (by rw[hs];decide),h,List.getLast?_concat]
 simp
theorem killS_none {s:Stk}(hs:sane s=true)(h:s.cs = []):killS s=(none_,5):=by
 unfold killS
 rw[if_neg (by rw[hs];decide),h]
 rfl
theorem dead_len {s:Stk}{q:List Ctl}{c:Ctl}(hs:sane s=true)(h:s.cs=q ++ [c]):((s.vals.take c.ht.toNat).length:Int)=c.ht:=by
 have:=(sane_facts hs).1 c (by rw[h];simp)
 rw[List.length_take]
 omega
theorem push_ok {s:Stk}{m:List Int}(hs:sane s=true)(hm:m.any noT=false):pushS s m=(⟨s.vals ++ m,s.cs⟩,0):=by
 unfold pushS
 rw[if_neg (by rw[hs];decide),if_neg (by rw[hm];decide)]
theorem push_no {s:Stk}{m:List Int}(hs:sane s=true)(hm:m.any noT=true):pushS s m=(none_,1):=by
 unfold pushS
 rw[if_neg (by rw[hs];decide),if_pos hm]
theorem open_ok {s:Stk}{op:Int}{l:List Int}(hs:sane s=true)(hl:mayE l=true):openS s op l=(⟨s.vals,s.cs ++ [⟨op,l,s.vals.length,false⟩]⟩,0):=by
 unfold openS
 rw[if_neg (by rw[hs];decide),if_neg (by rw[hl];decide)]
end Go.Proofs.YtlappkflnlbfcaaGreatDoor.Stk
end
