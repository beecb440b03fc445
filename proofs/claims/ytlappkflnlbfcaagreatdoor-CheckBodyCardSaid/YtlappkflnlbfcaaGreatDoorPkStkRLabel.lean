/- StkTheirs10, StkCloseH, StkRLabel. -/
import Derived.Test.YtlappkflnlbfcaaGreatDoorPkStkROpen
import Derived.Test.YtlappkflnlbfcaaGreatDoorPkStkPlain
import Derived.Test.YtlappkflnlbfcaaGreatDoorPkStkRSane
section
namespace Go.Proofs.YtlappkflnlbfcaaGreatDoor.Stk
open Lib (hid)
open Go.RowKit Row9
set_option maxRecDepth 100000
set_option maxHeartbeats 4000000
set_option linter.unusedVariables false
def theirs10Ends (s:Stk)(w:World)(e:Ending)(w':World):Prop:=(∃P n c Q m d,e= .returned (.agg #[.slice P n c,.slice Q m d])/\StIs elD w' (.agg #[.slice P n c,.slice Q m d]) s)/\Below w.heap.size w w'
theorem theirs10_any {v:Value}{s:Stk}{w:World}(h:StIs elP w v s)(hl:s.cs.length<=400000):Calls Tryz.prog 19 #[v] w (theirs10Ends s w):=by
 obtain⟨P,np,cp,Q,m,d,rfl⟩:=StIs.form (T:=elP) h
 obtain⟨l,hrb,hrc,hml,hnv,hnl,hnc⟩:=h.rows
 have HB3:=hid (below3 w (.cells #[.slice P np cp,.slice Q m d] 39) (.cells #[.slice none 0 0,.slice none 0 0] 30) (.cells #[.slice P np cp,.slice none 0 0] 30))
 have HA:=hid hrb
 have HC:=hid hrc
 have HML:=hid hml
 have HNL:=hid hnl
 have hbig:m<=400000:=by omega
 have HX0:Hid ((((w.alloc (.cells #[.slice P np cp,.slice Q m d] 39)).alloc (.cells #[.slice none 0 0,.slice none 0 0] 30)).alloc (.cells #[.slice P np cp,.slice none 0 0] 30)).heap[w.heap.size]? = some (.cells #[.slice P np cp,.slice Q m d] 39 (0,0))):=by
  show _=_
  rw[(below2 (w.alloc (.cells #[.slice P np cp,.slice Q m d] 39)) (.cells #[.slice none 0 0,.slice none 0 0] 30) (.cells #[.slice P np cp,.slice none 0 0] 30)).block w.heap.size (by rw[zaD];omega)]
  exact zaC w _
 have HR0:Hid ((((w.alloc (.cells #[.slice P np cp,.slice Q m d] 39)).alloc (.cells #[.slice none 0 0,.slice none 0 0] 30)).alloc (.cells #[.slice P np cp,.slice none 0 0] 30)).heap[w.heap.size+1]? = some (.cells #[.slice none 0 0,.slice none 0 0] 30 (0,0))):=by
  show _=_
  rw[(zaB ((w.alloc (.cells #[.slice P np cp,.slice Q m d] 39)).alloc (.cells #[.slice none 0 0,.slice none 0 0] 30)) (.cells #[.slice P np cp,.slice none 0 0] 30)).block (w.heap.size+1) (by rw[zaD,zaD];omega)]
  have:=zaC (w.alloc (.cells #[.slice P np cp,.slice Q m d] 39)) (.cells #[.slice none 0 0,.slice none 0 0] 30)
  rw[zaD] at this
  exact this
 have HO0:=hid (zaC ((w.alloc (.cells #[.slice P np cp,.slice Q m d] 39)).alloc (.cells #[.slice none 0 0,.slice none 0 0] 30)) (.cells #[.slice P np cp,.slice none 0 0] 30))
 simp only[zaD] at HO0
 clear h hrb hrc hml hnv hnl hnc hl
 go_enter Tryz.func19,Tryz.ntmps19
 go_wp2_with fail
 generalize ((w.alloc (.cells #[.slice P np cp,.slice Q m d] 39)).alloc (.cells #[.slice none 0 0,.slice none 0 0] 30)).alloc (.cells #[.slice P np cp,.slice none 0 0] 30)=w2 at *
 obtain⟨x,hx⟩:∃x,w.heap.size=x:=⟨_,rfl⟩
 obtain⟨r,hr⟩:∃r,x+1=r:=⟨_,rfl⟩
 obtain⟨o,ho⟩:∃o,r+1=o:=⟨_,rfl⟩
 rw[hx] at HX0 HR0 HO0 HB3
 rw[hr] at HR0 HO0
 rw[ho] at HO0
 have HXR:Hid (x<r/\r<o):=⟨by omega,by omega⟩
 simp only[hx]
 simp only[hr]
 simp only[ho]
 clear hr ho
 go_loopw [4] (fun i' wr=>∃ (i:Nat) (S:Option Addr) (k:Nat),i'= .int .i64 (i:Int)/\i<=m/\Below x w wr/\wr.heap[x]? = some (.cells #[.slice P np cp,.slice Q m d] 39 (0,0))/\wr.heap[r]? = some (.cells #[.slice none 0 0,.slice none 0 0] 30 (0,0))/\wr.heap[o]? = some (.cells #[.slice P np cp,.slice S i k] 30 (0,0))/\Own elD wr x (.slice S i k) (l.take i)) (fun i' _=>m - (intOf i').toNat)
 case atStart=>exact ⟨0,none,0,by go_num,Nat.zero_le _,HB3.out,HX0.out,HR0.out,HO0.out,own_nil _ _ _⟩
 case round=>
  obtain⟨i,S,k,rfl,hi,hbe,hx0,hr0,ho0,hO⟩:=hrel
  have HBe:=hid hbe
  have HX:=hid hx0
  have HR:=hid hr0
  have HOo:=hid ho0
  have HOw:=hid hO
  have HWr:Hid (Below w.heap.size w wr):=by rw[hx];exact hbe
  clear hbe hx0 hr0 ho0 hO
  by_cases hlt:i<m
  ·obtain ⟨p,hp⟩:∃p,l[i]? = some p:=⟨_,List.getElem?_eq_getElem (by rw[HNL.out];exact hlt)⟩
   obtain⟨g,off,rfl,hg,k0,k1,k2,k3,hOk⟩:=ctl_at (HC.out.keep HWr.out) hp
   have htk:l.take (i+1)=l.take i ++ [p]:=by
    obtain⟨h1,h2⟩:=List.getElem?_eq_some_iff.1 hp
    rw[List.take_succ_eq_append_getElem h1,h2]
   obtain⟨⟨op,fin,ht,dd⟩,u⟩:=p
   obtain⟨Pe,ce,hpe,_⟩:=hOk.1.form
   obtain⟨ne,hne⟩:∃ne,fin.length=ne:=⟨_,rfl⟩
   simp only at k0 k1 k2 k3 hpe
   rw[hne] at hpe
   subst hpe
   have HOk:=hid hOk
   have HTK:=hid htk
   obtain⟨qq,hqq⟩:∃qq,off+i*4=qq:=⟨_,rfl⟩
   rw[hqq] at k0 k1 k2 k3
   have i1:(0:Int)<=(i:Int):=by omega
   have i2:(i:Int)<(m:Int):=by omega
   have hw1:IntKind.i64.wrap ((i:Int)+1)=(i:Int)+1:=IntWalk.i64_in _ (by omega)
   have hxs:x<=wr.heap.size:=by rw[<- hx];exact HWr.out.size
   have HBN:=hid (below2 wr (.cells #[.int .i64 op,.slice Pe ne ce,.int .i64 ht,.bool dd] 72) (.cells #[.int .i64 op,.slice Pe ne ce,.int .i64 ht,.bool dd] 76))
   obtain⟨a0,a1⟩:=zaH HX.out
   obtain⟨o0,o1⟩:=zaH HOo.out
   have hol:o<wr.heap.size:=lt_of_heap HOo.out
   have hxl:x<wr.heap.size:=lt_of_heap HX.out
   clear hp hOk htk hne
   go_wp2_with (at_builtin;refine stop_ ?_)
   refine hid ?_
   refine wp_oneG elD 28 Tryz.underlying28 ((wr.alloc (.cells #[.int .i64 op,.slice Pe ne ce,.int .i64 ht,.bool dd] 72)).alloc (.cells #[.int .i64 op,.slice Pe ne ce,.int .i64 ht,.bool dd] 76)) rfl (.tmp 22) (.tmp 32) rfl x _ (l.take i) (⟨op,fin,ht,dd⟩,.slice Pe ne ce) (HOk.out.keep HBN.out) (by rfl) (own_keep HOw.out HBN.out) (wr.heap.size+1) (by rfl) (by
    have:=newG' elD (wr.alloc (.cells #[.int .i64 op,.slice Pe ne ce,.int .i64 ht,.bool dd] 72)) (⟨op,fin,ht,dd⟩,.slice Pe ne ce) #[.int .i64 op,.slice Pe ne ce,.int .i64 ht,.bool dd] _ rfl rfl
    rw[zaD] at this
    exact this) (by rw[List.length_take];omega) (by decide) (Nat.le_trans hxs HBN.out.size) ?_
   intro v7 w7 ho7 hb7 hc7
   obtain⟨S7,c7,hv7⟩:=ho7.form
   have hil:(l.take i ++ [((⟨op,fin,ht,dd⟩:Ctl),Value.slice Pe ne ce)]).length=i+1:=by rw[List.length_append,List.length_take,HNL.out];simp;omega
   rw[hil] at hv7
   subst hv7
   have HOw7:=hid ho7
   have HO7:=hid ((hc7 o (Nat.lt_of_lt_of_le hol HBN.out.size) (fun e=>own_notB HOw.out HOo.out (by decide) e.symm rfl)).trans (blk HOo.out HBN.out))
   have HX7:=hid ((hc7 x (Nat.lt_of_lt_of_le hxl HBN.out.size) (fun e=>own_notB HOw.out HX.out (by decide) e.symm rfl)).trans (blk HX.out HBN.out))
   have HR7:=hid ((hc7 r (Nat.lt_of_lt_of_le (lt_of_heap HR.out) HBN.out.size) (fun e=>own_notB HOw.out HR.out (by decide) e.symm rfl)).trans (blk HR.out HBN.out))
   have HB7:=hid ((HBe.out.trans (HBN.out.mono hxs)).trans hb7)
   clear ho7 hb7 hc7 hol hxl a0 a1 o0 o1 hil k0 k1 k2 k3
   obtain⟨o0,o1⟩:=zaH HO7.out
   have op1:=(zaA HO7.out 1).2
   have hol:o<w7.heap.size:=lt_of_heap HO7.out
   simp only[Act.put,List.setIfInBounds_toArray,List.set_cons_succ,List.set_cons_zero]
   go_wp2_with fail
   have HOw8:=hid (own_stay HOw7.out (w':=w7.setCell ⟨o,1,none⟩ (.slice S7 (i+1) c7)) fun kk hkk=>chg_set w7 o 1 _ kk (World.ownsRow.lt HOw7.out kk hkk).2 (by intro e;exact own_notB HOw7.out HO7.out (by decide) hkk (Option.some.inj e)))
   have HB8:=hid (HB7.out.setCell (p:=⟨o,1,none⟩) (by show x<=o;have:=HXR.out;omega) (.slice S7 (i+1) c7))
   go_roundw
   case rel=>
    refine⟨i+1,S7,c7,by go_num,hlt,HB8.out,?_,?_,?_,by rw[HTK.out];exact HOw8.out⟩
    ·rw[chg_set w7 o 1 _ x (lt_of_heap HX7.out) (by intro e;have:=HXR.out;have:=Option.some.inj e;omega)]
     exact HX7.out
    ·rw[chg_set w7 o 1 _ r (lt_of_heap HR7.out) (by intro e;have:=HXR.out;have:=Option.some.inj e;omega)]
     exact HR7.out
    ·rw[zaE HO7.out]
     rfl
   case measure=>simp[intOf];omega
  ·obtain rfl:i=m:=by omega
   have HTK:Hid (l.take i=l):=List.take_of_length_le (by rw[HNL.out];exact Nat.le_refl _)
   rw[HTK.out] at HOw
   obtain⟨a0,a1⟩:=zaH HX.out
   obtain⟨o0,o1⟩:=zaH HOo.out
   obtain⟨q0,q1⟩:=zaH HR.out
   have p0:=(zaA HR.out 0).2
   have p1:=(zaA HR.out 1).2
   have hrl:r<wr.heap.size:=lt_of_heap HR.out
   have HRow:=hid (own_stay HOw.out (w':=(wr.setCell ⟨r,0,none⟩ (.slice P np cp)).setCell ⟨r,1,none⟩ (.slice S i k)) fun kk hkk=>chg2 wr r _ _ kk (World.ownsRow.lt HOw.out kk hkk).2 (by intro e;exact own_notB HOw.out HR.out (by decide) hkk (Option.some.inj e)))
   have HBf:=hid ((HBe.out.setCell (p:=⟨r,0,none⟩) (by show x<=r;have:=HXR.out;omega) (.slice P np cp)).setCell (p:=⟨r,1,none⟩) (by show x<=r;have:=HXR.out;omega) (.slice S i k))
   obtain⟨f0,f1⟩:=zaH (show ((wr.setCell ⟨r,0,none⟩ (.slice P np cp)).setCell ⟨r,1,none⟩ (.slice S i k)).heap[r]? = some (.cells #[.slice P np cp,.slice S i k] 30 (0,0)) by rw[zaE (zaE HR.out _)];rfl)
   have NE:o≠r:=by have:=HXR.out;omega
   go_wp2_with fail
   generalize (wr.setCell ⟨r,0,none⟩ (.slice P np cp)).setCell ⟨r,1,none⟩ (.slice S i k)=wf at *
   clear q0 q1 p0 p1 a0 a1 o0 o1
   refine bodyPost_ret (v:=.agg #[.slice P np cp,.slice S i k]) (by simp[results,Tryz.results19,go_sem,f0,f1]) rfl ⟨⟨_,_,_,_,_,_,rfl,_,_,l,rfl,?_,?_,HML.out⟩,by rw[hx];exact HBf.out⟩
   ·exact HA.out.keep (by rw[hx];exact HBf.out)
   ·exact Own.row HRow.out fun p hp=>(HC.out.2 p hp).keep (by rw[hx];exact HBf.out)
def CloseHigh (r:Stk×Ctl×Int)(w:World)(e:Ending)(w':World):Prop:=(∃v u,e= .returned (.tuple #[v,.agg #[.int .i64 r.2.1.op,u,.int .i64 r.2.1.ht,.bool r.2.1.dead],.int .i64 r.2.2])/\(∀W:World,(∀k,w.heap.size<=k->k<w'.heap.size->W.heap[k]? = w'.heap[k]?)->StIs elP W v r.1)/\Row elB w' u r.2.1.fin)/\Below w.heap.size w w'
theorem Close_high {a c:Value}{vals:List Int}{l:List CtV}{w:World}(ha:Row elB w a vals)(hc:Row elP w c l)(hvl:vals.length<=400000)(hll:l.length<=400000):
  Calls Tryz.prog 52 #[.agg #[a,c]] w (CloseHigh (zaM ⟨vals,l.map (·.1)⟩) w):=by
 have hmf:=mkf
 have HA:=hid ha
 have HC:=hid hc
 have HL:=hid hvl
 have HLL:=hid hll
 obtain⟨Pa,ca,rfl,y1,y2⟩:=ha.form
 obtain⟨Pc,cc_,rfl,y3,y4⟩:=hc.form
 obtain⟨nv,hnv⟩:∃n,vals.length=n:=⟨_,rfl⟩
 obtain⟨nl,hnl⟩:∃n,l.length=n:=⟨_,rfl⟩
 rw[closeS_is]
 obtain⟨o,ho⟩:∃o,closeV vals (l.map (·.1))=o:=⟨_,rfl⟩
 have HO:=hid ho
 show Calls _ _ _ _ (CloseHigh (closeMade ⟨vals,l.map (·.1)⟩ (closeV vals (l.map (·.1)))) w)
 rw[ho]
 rw[hnv] at HA ⊢
 rw[hnl] at HC ⊢
 have HNL:=hid hnl
 have HB3:=hid (below4 w (.cells #[.slice Pa nv ca,.slice Pc nl cc_] 39) (.cells #[.slice none 0 0,.slice none 0 0] 39) zCells zCells)
 have HSz:Hid (((((w.alloc (.cells #[.slice Pa nv ca,.slice Pc nl cc_] 39)).alloc (.cells #[.slice none 0 0,.slice none 0 0] 39)).alloc zCells).alloc zCells).heap.size=w.heap.size+1+1+1+1):=by
  show _=_
  rw[zaD,zaD,zaD,zaD]
 have HZ1:Hid (((((w.alloc (.cells #[.slice Pa nv ca,.slice Pc nl cc_] 39)).alloc (.cells #[.slice none 0 0,.slice none 0 0] 39)).alloc zCells).alloc zCells).heap[w.heap.size+1]? = some (.cells #[.slice none 0 0,.slice none 0 0] 39 (0,0))):=by
  show _=_
  rw[(below2 ((w.alloc (.cells #[.slice Pa nv ca,.slice Pc nl cc_] 39)).alloc (.cells #[.slice none 0 0,.slice none 0 0] 39)) zCells zCells).block (w.heap.size+1) (by simp only[zaD];omega)]
  have:=zaC (w.alloc (.cells #[.slice Pa nv ca,.slice Pc nl cc_] 39)) (.cells #[.slice none 0 0,.slice none 0 0] 39)
  rw[zaD] at this
  exact this
 have HZ2:Hid (((((w.alloc (.cells #[.slice Pa nv ca,.slice Pc nl cc_] 39)).alloc (.cells #[.slice none 0 0,.slice none 0 0] 39)).alloc zCells).alloc zCells).heap[w.heap.size+1+1]? = some zCells):=by
  show _=_
  rw[(zaB (((w.alloc (.cells #[.slice Pa nv ca,.slice Pc nl cc_] 39)).alloc (.cells #[.slice none 0 0,.slice none 0 0] 39)).alloc zCells) zCells).block (w.heap.size+1+1) (by simp only[zaD];omega)]
  have:=zaC ((w.alloc (.cells #[.slice Pa nv ca,.slice Pc nl cc_] 39)).alloc (.cells #[.slice none 0 0,.slice none 0 0] 39)) zCells
  rw[zaD,zaD] at this
  exact this
 have HX:=hid (zaC (((w.alloc (.cells #[.slice Pa nv ca,.slice Pc nl cc_] 39)).alloc (.cells #[.slice none 0 0,.slice none 0 0] 39)).alloc zCells) zCells)
 simp only[zaD] at HX
 clear y1 y2 y3 y4 ha hc hvl hll hnv hnl ho
 go_enter Tryz.func52,Tryz.ntmps52
 go_wp2_with fail
 change Calls _ _ _ ((((w.alloc (.cells #[.slice Pa nv ca,.slice Pc nl cc_] 39)).alloc (.cells #[.slice none 0 0,.slice none 0 0] 39)).alloc zCells).alloc zCells) _
 generalize (((w.alloc (.cells #[.slice Pa nv ca,.slice Pc nl cc_] 39)).alloc (.cells #[.slice none 0 0,.slice none 0 0] 39)).alloc zCells).alloc zCells=w3 at *
 obtain⟨b,hb⟩:∃b,w.heap.size+1+1+1=b:=⟨_,rfl⟩
 obtain⟨r2,hr2⟩:∃r,w.heap.size+1+1=r:=⟨_,rfl⟩
 obtain⟨r1,hr1⟩:∃r,w.heap.size+1=r:=⟨_,rfl⟩
 have HR:Hid (w.heap.size<=r1/\r1<r2/\r2<b/\b<w3.heap.size):=⟨by omega,by omega,by omega,by rw[HSz.out];omega⟩
 rw[hb] at HX
 rw[hr2] at HZ2
 rw[hr1] at HZ1
 simp only[hb]
 simp only[hr2]
 simp only[hr1]
 clear hr1 hr2 hb HSz
 have HCh:=hid (changed_high (b:=some b) (e0:=cvE o) (s':=⟨cvL o,(l.map (·.1)).dropLast⟩) (K:=fun W=>CtlAt W b (cvC o)) (caps:=#[.pointer (some ⟨b,0,none⟩)]) (HA.out.keep HB3.out) (HC.out.keep HB3.out) (by have:=HL.out;omega) (by have:=HLL.out;omega) (k:=84) ⟨_,Tryz.func84,by kernel_rfl,by kernel_rfl⟩
  (fun W W' r' hK hr' hN hch hs=>by
   obtain⟨u,h1,h2⟩:=hK
   exact⟨u,(hch b (lt_of_heap h1) (by have:=HR.out.2.2.2;intro e;have:=Option.some.inj e;omega)).trans h1,row_besideB h2 hN hch hs⟩)
  (fun hsn W B D vv cv l' hB hW hd hl'=>by
   have hz:=(hW.block b HR.out.2.2.2).trans HX.out
   have hll':l'.length=l.length:=by have:=congrArg List.length hl';simpa using this
   rw[<- HO.out,<- hl']
   exact closed1 hd (by have:=HL.out;omega) (by have:=HLL.out;omega) (fun p hp=>by
    have h1:=(sane_facts hsn).1 p.1 (by show p.1∈l.map (·.1);rw[<- hl'];exact List.mem_map_of_mem hp)
    have:=mayE_len h1.2.2
    omega) (Nat.lt_of_lt_of_le HR.out.2.2.2 hB) hz) (fun x hx e=>by have:=HR.out.2.2.2;have:=Option.some.inj e;omega))
 refine HCh.out.mono ?_
 rintro e w4 hch
 have HU:∃v ms mc ee,closeMade ⟨vals,l.map (·.1)⟩ o=(ms,mc,ee)/\e= .returned (.tuple #[v,.int .i64 ee])/\(∀W:World,(∀k,w3.heap.size<=k->k<w4.heap.size->W.heap[k]? = w4.heap[k]?)->StIs elP W v ms)/\CtlAt w4 b mc/\BO w3.heap.size (some b) w3 w4:=by
  unfold closeMade
  rcases hch with ⟨h1,h2,h3⟩ | ⟨h1,h2,h3,h4,h5⟩ | ⟨h1,h2,v,h3,h4,h5,h6⟩
  ·rw[if_pos h1]
   exact⟨_,_,_,_,rfl,h2,fun W _=>zS_is W,CtlAt.zero ((h3.block b HR.out.2.2.2).trans HX.out),BO.of_below h3⟩
  ·rw[if_neg (by rw[h1];decide)]
   cases o with
   | none=>exact ⟨_,_,_,_,rfl,h3,fun W _=>zS_is W,h4,h5⟩
   | some p=>exact absurd rfl h2
  ·rw[if_neg (by rw[h1];decide)]
   cases o with
   | none=>exact absurd h2 (by decide)
   | some p=>exact ⟨_,_,_,_,rfl,h3,h4,h5,h6⟩
 obtain⟨v,ms,mc,ee,hu,rfl,hv,⟨u,hub,hur⟩,hbo⟩:=HU
 have HUU:=hid hu
 have hz1:=(hbo.block r1 (by have:=HR.out;omega) (by have:=HR.out;intro e;have:=Option.some.inj e;omega)).trans HZ1.out
 have hz2:=(hbo.block r2 (by have:=HR.out;omega) (by have:=HR.out;intro e;have:=Option.some.inj e;omega)).trans HZ2.out
 have HB4:Hid (Below w.heap.size w w4):=HB3.out.trans ⟨hbo.os,hbo.tape,hbo.output,hbo.size,fun k hk=>hbo.block k (Nat.lt_of_lt_of_le hk HB3.out.size) (by have:=HR.out;intro e;have:=Option.some.inj e;omega)⟩
 have HS4:=hid hbo.size
 obtain⟨P1,n1,c1,P2,n2,c2,rfl⟩:∃P n c Q m d,v= .agg #[.slice P n c,.slice Q m d]:=by
  obtain⟨a,c,l9,rfl,h1,h2,_⟩:=hv w4 (fun _ _ _=>rfl)
  obtain⟨A1,k1,rfl,_⟩:=h1.form
  obtain⟨A2,k2,rfl,_⟩:=h2.form
  exact⟨_,_,_,_,_,_,rfl⟩
 obtain⟨P3,n3,c3,rfl⟩:∃P n c,u= .slice P n c:=by
  obtain⟨A1,k1,e,_⟩:=hur.form
  exact⟨_,_,_,e⟩
 have HV:=hid hv
 have HB5:=hid (zaB w4 (.cells #[.slice P1 n1 c1,.slice P2 n2 c2] 39))
 have HX5:=hid (zaC w4 (.cells #[.slice P1 n1 c1,.slice P2 n2 c2] 39))
 have HZ1':=hid ((HB5.out.block r1 (lt_of_heap hz1)).trans hz1)
 have HZ2':=hid ((HB5.out.block r2 (lt_of_heap hz2)).trans hz2)
 have HZb':=hid ((HB5.out.block b (lt_of_heap hub)).trans hub)
 have HUR:=hid (hur.keep HB5.out)
 have HLT:=hid (lt_of_heap hub)
 clear hz1 hz2 hub hur hv hbo hu hch HCh
 go_wp2_with fail
 generalize w4.alloc (.cells #[.slice P1 n1 c1,.slice P2 n2 c2] 39)=w7 at *
 obtain⟨x,hx⟩:∃x,w4.heap.size=x:=⟨_,rfl⟩
 rw[hx] at HX5
 simp only[hx]
 have hxb:b<x:=by rw[<- hx];exact HLT.out
 obtain⟨x0,x1⟩:w7.cell? ⟨x,0,none⟩=some (.slice P1 n1 c1)/\w7.cell? ⟨x,1,none⟩=some (.slice P2 n2 c2):=⟨(zaA HX5.out 0).1,(zaA HX5.out 1).1⟩
 obtain⟨k0,k1,k2,k3⟩:w7.cell? ⟨b,0,none⟩=some (.int .i64 mc.op)/\w7.cell? ⟨b,1,none⟩=some (.slice P3 n3 c3)/\w7.cell? ⟨b,2,none⟩=some (.int .i64 mc.ht)/\w7.cell? ⟨b,3,none⟩=some (.bool mc.dead):=⟨(zaA HZb'.out 0).1,(zaA HZb'.out 1).1,(zaA HZb'.out 2).1,(zaA HZb'.out 3).1⟩
 obtain⟨q0,q1⟩:w7.cell? ⟨r1,0,none⟩=some (.slice none 0 0)/\w7.cell? ⟨r1,1,none⟩=some (.slice none 0 0):=⟨(zaA HZ1'.out 0).1,(zaA HZ1'.out 1).1⟩
 obtain⟨p0,p1⟩:w7.frozen? ⟨r1,0,none⟩=false/\w7.frozen? ⟨r1,1,none⟩=false:=⟨(zaA HZ1'.out 0).2,(zaA HZ1'.out 1).2⟩
 obtain⟨s0,s1,s2,s3⟩:w7.cell? ⟨r2,0,none⟩=some (.int .i64 0)/\w7.cell? ⟨r2,1,none⟩=some (.slice none 0 0)/\w7.cell? ⟨r2,2,none⟩=some (.int .i64 0)/\w7.cell? ⟨r2,3,none⟩=some (.bool false):=⟨(zaA HZ2'.out 0).1,(zaA HZ2'.out 1).1,(zaA HZ2'.out 2).1,(zaA HZ2'.out 3).1⟩
 obtain⟨t0,t1,t2,t3⟩:w7.frozen? ⟨r2,0,none⟩=false/\w7.frozen? ⟨r2,1,none⟩=false/\w7.frozen? ⟨r2,2,none⟩=false/\w7.frozen? ⟨r2,3,none⟩=false:=⟨(zaA HZ2'.out 0).2,(zaA HZ2'.out 1).2,(zaA HZ2'.out 2).2,(zaA HZ2'.out 3).2⟩
 have d1:b≠r1:=by have:=HR.out;omega
 have d2:b≠r2:=by have:=HR.out;omega
 have d3:x≠r1:=by have:=HR.out;omega
 have d4:x≠r2:=by have:=HR.out;omega
 have d5:r2≠r1:=by have:=HR.out;omega
 have d6:r1≠r2:=by have:=HR.out;omega
 clear hx hxb
 go_region
 clear d1 d2 d3 d4 d5 x0 x1 k0 k1 k2 k3 q0 q1 p0 p1 s0 s1 s2 s3 t0 t1 t2 t3
 have HC1:=hid (chg2 w7 r1 (.slice P1 n1 c1) (.slice P2 n2 c2))
 have HZ18:=hid (zaE (i:=1) (zaE (i:=0) HZ1'.out (.slice P1 n1 c1)) (.slice P2 n2 c2))
 have HB8:=hid (((HB4.out.trans (HB5.out.mono HB4.out.size)).setCell (p:=⟨r1,0,none⟩) HR.out.1 (.slice P1 n1 c1)).setCell (p:=⟨r1,1,none⟩) HR.out.1 (.slice P2 n2 c2))
 have HN8:Hid (((w7.setCell ⟨r1,0,none⟩ (.slice P1 n1 c1)).setCell ⟨r1,1,none⟩ (.slice P2 n2 c2)).heap.size=w7.heap.size):=by show _=_;rw[zaJ,zaJ]
 generalize (w7.setCell ⟨r1,0,none⟩ (.slice P1 n1 c1)).setCell ⟨r1,1,none⟩ (.slice P2 n2 c2)=w8 at *
 have HU8:=hid (row_besideB HUR.out (noint2 HZ1'.out) HC1.out (Nat.le_of_eq HN8.out.symm))
 have HZ28:=hid ((HC1.out r2 (lt_of_heap HZ2'.out) (by intro e;exact d6 (Option.some.inj e).symm)).trans HZ2'.out)
 have HC2:=hid (chg4 w8 r2 (.int .i64 mc.op) (.slice P3 n3 c3) (.int .i64 mc.ht) (.bool mc.dead))
 have HZ29:=hid (set4_heap HZ28.out (.int .i64 mc.op) (.slice P3 n3 c3) (.int .i64 mc.ht) (.bool mc.dead) rfl)
 have hR2:w.heap.size<=r2:=by have:=HR.out;omega
 have HB9:=hid (((((HB8.out.setCell (p:=⟨r2,0,none⟩) hR2 (.int .i64 mc.op)).setCell (p:=⟨r2,1,none⟩) hR2 (.slice P3 n3 c3)).setCell (p:=⟨r2,2,none⟩) hR2 (.int .i64 mc.ht)).setCell (p:=⟨r2,3,none⟩) hR2 (.bool mc.dead)).drew)
 have HN9:Hid (((((w8.setCell ⟨r2,0,none⟩ (.int .i64 mc.op)).setCell ⟨r2,1,none⟩ (.slice P3 n3 c3)).setCell ⟨r2,2,none⟩ (.int .i64 mc.ht)).setCell ⟨r2,3,none⟩ (.bool mc.dead)).heap.size=w8.heap.size):=by show _=_;rw[zaJ,zaJ,zaJ,zaJ]
 generalize (((w8.setCell ⟨r2,0,none⟩ (.int .i64 mc.op)).setCell ⟨r2,1,none⟩ (.slice P3 n3 c3)).setCell ⟨r2,2,none⟩ (.int .i64 mc.ht)).setCell ⟨r2,3,none⟩ (.bool mc.dead)=w9 at *
 have HU9:=hid ((row_besideU HU8.out (nou8_4 HZ28.out) HC2.out (Nat.le_of_eq HN9.out.symm)).keep (zaI w9))
 have HZ19:=(HC2.out r1 (lt_of_heap HZ18.out) (by intro e;exact d6 (Option.some.inj e))).trans HZ18.out
 have HV9:Hid (∀W:World,(∀k,w.heap.size<=k->k<w9.drew.heap.size->W.heap[k]? = w9.drew.heap[k]?)->StIs elP W (.agg #[.slice P1 n1 c1,.slice P2 n2 c2]) ms):=fun W hW=>HV.out W fun k h1 h2=>by
  have hs:=HS4.out
  have h7:k<w7.heap.size:=Nat.lt_of_lt_of_le h2 HB5.out.size
  rw[hW k (Nat.le_trans HB3.out.size h1) (by show k<w9.heap.size;rw[HN9.out,HN8.out];exact h7)]
  show w9.heap[k]? = _
  rw[HC2.out k (by rw[HN8.out];exact h7) (by intro e;have:=Option.some.inj e;have:=HR.out;omega),HC1.out k h7 (by intro e;have:=Option.some.inj e;have:=HR.out;omega)]
  exact HB5.out.block k h2
 have y0:w9.drew.cell? ⟨r1,0,none⟩=some (.slice P1 n1 c1):=(zaA HZ19 0).1
 have y1:w9.drew.cell? ⟨r1,1,none⟩=some (.slice P2 n2 c2):=(zaA HZ19 1).1
 have z0:w9.drew.cell? ⟨r2,0,none⟩=some (.int .i64 mc.op):=(zaA HZ29.out 0).1
 have z1:w9.drew.cell? ⟨r2,1,none⟩=some (.slice P3 n3 c3):=(zaA HZ29.out 1).1
 have z2:w9.drew.cell? ⟨r2,2,none⟩=some (.int .i64 mc.ht):=(zaA HZ29.out 2).1
 have z3:w9.drew.cell? ⟨r2,3,none⟩=some (.bool mc.dead):=(zaA HZ29.out 3).1
 clear HZ19 hR2 d6
 generalize w9.drew=w10 at *
 go_wp2_with fail
 refine bodyPost_ret (v:=.tuple #[.agg #[.slice P1 n1 c1,.slice P2 n2 c2],.agg #[.int .i64 mc.op,.slice P3 n3 c3,.int .i64 mc.ht,.bool mc.dead],.int .i64 ee]) (by simp[results,Tryz.results52,go_sem,y0,y1,z0,z1,z2,z3]) rfl ⟨⟨_,_,by rw[HUU.out],by rw[HUU.out];exact HV9.out,by rw[HUU.out];exact HU9.out⟩,HB9.out⟩
theorem Close_hst {v:Value}{s:Stk}{w:World}(h:StIs elP w v s)(h1:s.vals.length<=400000)(h2:s.cs.length<=400000):Calls Tryz.prog 52 #[v] w (CloseHigh (zaM s) w):=by
 obtain⟨a,c,l,rfl,ha,hc,hl⟩:=h
 obtain⟨vals,cs⟩:=s
 subst hl
 exact Close_high ha hc h1 (by simpa using h2)
theorem CloseHigh.of {r:Stk×Ctl×Int}{w w':World}{e:Ending}(h:CloseHigh r w e w'):∃P n c Q m d R k f,e= .returned (.tuple #[.agg #[.slice P n c,.slice Q m d],.agg #[.int .i64 r.2.1.op,.slice R k f,.int .i64 r.2.1.ht,.bool r.2.1.dead],.int .i64 r.2.2])/\(∀W:World,(∀k,w.heap.size<=k->k<w'.heap.size->W.heap[k]? = w'.heap[k]?)->StIs elP W (.agg #[.slice P n c,.slice Q m d]) r.1)/\Row elB w' (.slice R k f) r.2.1.fin/\Below w.heap.size w w':=by
 obtain⟨⟨v,u,rfl,h2,h3⟩,hb⟩:=h
 obtain⟨P,n,c,Q,m,d,rfl⟩:=StIs.form (T:=elP) (h2 w' (fun _ _ _=>rfl))
 obtain⟨R,f,rfl,_⟩:=h3.form
 exact⟨_,_,_,_,_,_,_,_,_,rfl,h2,h3,hb⟩
theorem rsane_v {a c:Value}{vals:List Int}{l:List CtV}{w:World}(ha:Row elB w a vals)(hc:Row elD w c l):Calls Tryz.prog 28 #[.agg #[a,c]] w fun e w'=>e= .returned (.bool (sane ⟨vals,l.map (·.1)⟩))/\Below w.heap.size w w':=rsane_any ⟨_,_,l,rfl,ha,hc,rfl⟩
theorem rLabel_any {a c:Value}{vals:List Int}{l:List CtV}{n:Int}{w:World}(ha:Row elB w a vals)(hc:Row elD w c l)(hn:w64 n)(hll:l.length<=400000)(hel:∀p∈l,p.1.fin.length<=1000000):
  Calls Tryz.prog 102 #[.agg #[a,c],.int .i64 n] w (LabTold (labelS ⟨vals,l.map (·.1)⟩ n) w):=by
 have HC:=hid hc
 have HB0:=hid (zaB w (.cells #[a,c] 30))
 have HS:=hid (rsane_v (ha.keep HB0.out) (hc.keep HB0.out))
 have HX:=hid (fun W (hW:Below (w.alloc (.cells #[a,c] 30)).heap.size (w.alloc (.cells #[a,c] 30)) W)=>box2_keep hW)
 obtain⟨Pa,ca,rfl,_⟩:=ha.form
 obtain⟨Pc,cc_,rfl,_⟩:=hc.form
 obtain⟨nv,hnv⟩:∃n,vals.length=n:=⟨_,rfl⟩
 obtain⟨nl,hnl⟩:∃n,l.length=n:=⟨_,rfl⟩
 have HNL:=hid hnl
 have hml:(l.map (·.1)).length=nl:=by rw[List.length_map,hnl]
 have HML:=hid hml
 rw[hnv] at HB0 HS HX ⊢
 rw[hnl] at HB0 HS HX HC hll ⊢
 obtain⟨R,hR⟩:∃R,labelS ⟨vals,l.map (·.1)⟩ n=R:=⟨_,rfl⟩
 have HR:=hid hR
 have HEL:=hid hel
 rw[hR]
 clear ha hc hnv hnl hml hR hel
 cases hs:sane ⟨vals,l.map (·.1)⟩ with
 | false=>
  have HQ:Hid (R=([],1)):=HR.out.symm.trans (label_no hs)
  rw[hs] at HS
  clear hs
  go_enter Tryz.func102,Tryz.ntmps102
  go_wp2_with fail
  refine HS.out.mono ?_
  rintro e w1 ⟨rfl,hb⟩
  have HB1:=hid (HB0.out.trans (hb.mono HB0.out.size))
  clear hb HS
  go_wp2_with fail
  refine bodyPost_ret (v:=.tuple #[.slice none 0 0,.int .i64 1]) (by simp[results,Tryz.results102,go_sem]) rfl ?_
  rw[HQ.out]
  exact⟨⟨_,rfl,Row.nil _ _⟩,HB1.out⟩
 | true=>
  have HSN:=hid hs
  rw[hs] at HS
  clear hs
  by_cases h0:n<0
  ·have HQ:Hid (R=([],6)):=HR.out.symm.trans (label_out HSN.out (.inl h0))
   have t1:decide (n<0)=true:=decide_eq_true h0
   clear h0
   go_enter Tryz.func102,Tryz.ntmps102
   go_wp2_with fail
   refine HS.out.mono ?_
   rintro e w1 ⟨rfl,hb⟩
   have HB1:=hid (HB0.out.trans (hb.mono HB0.out.size))
   clear hb HS
   go_wp2_with fail
   refine bodyPost_ret (v:=.tuple #[.slice none 0 0,.int .i64 6]) (by simp[results,Tryz.results102,go_sem]) rfl ?_
   rw[HQ.out]
   exact⟨⟨_,rfl,Row.nil _ _⟩,HB1.out⟩
  ·have t1:decide (n<0)=false:=decide_eq_false h0
   by_cases h1:(nl:Int)<=n
   ·have HQ:Hid (R=([],6)):=HR.out.symm.trans (label_out HSN.out (.inr (by show ((l.map (·.1)).length:Int)<=n;rw[HML.out];exact h1)))
    have t2:decide ((nl:Int)<=n)=true:=decide_eq_true h1
    clear h0 h1
    go_enter Tryz.func102,Tryz.ntmps102
    go_wp2_with fail
    refine HS.out.mono ?_
    rintro e w1 ⟨rfl,hb⟩
    have HB1:=hid (HB0.out.trans (hb.mono HB0.out.size))
    obtain⟨x0,x1⟩:=HX.out w1 hb
    clear hb HS
    go_wp2_with fail
    refine bodyPost_ret (v:=.tuple #[.slice none 0 0,.int .i64 6]) (by simp[results,Tryz.results102,go_sem]) rfl ?_
    rw[HQ.out]
    exact⟨⟨_,rfl,Row.nil _ _⟩,HB1.out⟩
   ·have t2:decide ((nl:Int)<=n)=false:=decide_eq_false h1
    obtain⟨k,hk⟩:∃k:Nat,(k:Int)=nl - 1 - n:=⟨((nl:Int) - 1 - n).toNat,by omega⟩
    have hkl:k<nl:=by omega
    obtain⟨p,hp⟩:∃p,l[k]? = some p:=⟨_,List.getElem?_eq_getElem (by rw[HNL.out];exact hkl)⟩
    have hp':(l.map (·.1))[k]? = some p.1:=by rw[List.getElem?_map,hp];rfl
    have hq:=HR.out.symm.trans (label_at HSN.out (by show ¬ (n<0\/((l.map (·.1)).length:Int)<=n);rw[HML.out];omega) (by show (k:Int)=((l.map (·.1)).length:Int) - 1 - n;rw[HML.out];exact hk) hp')
    have HP:=hid hp
    have e1:IntKind.i64.wrap ((nl:Int) - 1)=(nl:Int) - 1:=IntWalk.i64_in _ (by omega)
    have e2:IntKind.i64.wrap ((nl:Int) - 1 - n)=(k:Int):=by rw[IntWalk.i64_in _ (by omega)];omega
    have i1:(0:Int)<=(k:Int):=by omega
    have i2:(k:Int)<(nl:Int):=by omega
    obtain⟨op,hop⟩:∃op,p.1.op=op:=⟨_,rfl⟩
    rw[hop] at hq
    have HOP:=hid hop
    cases h3:(op == 3) with
    | true=>
     have HQ:Hid (R=([],0)):=by show _=_;rw[hq,if_pos (by simpa using h3)]
     clear h0 h1 hk hkl hp hp' hq hop
     go_enter Tryz.func102,Tryz.ntmps102
     go_wp2_with fail
     refine HS.out.mono ?_
     rintro e w1 ⟨rfl,hb⟩
     have HB1:=hid (HB0.out.trans (hb.mono HB0.out.size))
     obtain⟨x0,x1⟩:=HX.out w1 hb
     obtain⟨g,off,rfl,hg,k0,k1,k2,k3,hO⟩:=ctl_at (HC.out.keep HB1.out) HP.out
     obtain⟨Pe,ce,hpe,_⟩:=hO.1.form
     rw[HOP.out] at k0
     rw[hpe] at k1
     obtain⟨qq,hqq⟩:∃qq,off+k*4=qq:=⟨_,rfl⟩
     rw[hqq] at k0 k1 k2 k3
     clear hb HS hg hO hpe
     go_wp2_with fail
     refine bodyPost_ret (v:=.tuple #[.slice none 0 0,.int .i64 0]) (by simp[results,Tryz.results102,go_sem]) rfl ?_
     rw[HQ.out]
     exact⟨⟨_,rfl,Row.nil _ _⟩,HB1.out.alloc HB1.out.size _⟩
    | false=>
     have HQ:Hid (R=(p.1.fin,0)):=by show _=_;rw[hq,if_neg (by simpa using h3)]
     clear h0 h1 hk hkl hp hp' hq hop
     go_enter Tryz.func102,Tryz.ntmps102
     go_wp2_with fail
     refine HS.out.mono ?_
     rintro e w1 ⟨rfl,hb⟩
     have HB1:=hid (HB0.out.trans (hb.mono HB0.out.size))
     obtain⟨x0,x1⟩:=HX.out w1 hb
     obtain⟨g,off,rfl,hg,k0,k1,k2,k3,hO⟩:=ctl_at (HC.out.keep HB1.out) HP.out
     obtain⟨Pe,ce,hpe,_⟩:=hO.1.form
     obtain⟨ht,hht⟩:∃ht,p.1.ht=ht:=⟨_,rfl⟩
     obtain⟨dd,hdd⟩:∃dd,p.1.dead=dd:=⟨_,rfl⟩
     obtain⟨ne,hne⟩:∃ne,p.1.fin.length=ne:=⟨_,rfl⟩
     rw[hne] at hpe
     rw[HOP.out] at k0
     rw[hht] at k2
     rw[hdd] at k3
     obtain⟨qq,hqq⟩:∃qq,off+k*4=qq:=⟨_,rfl⟩
     rw[hqq] at k0 k1 k2 k3
     rw[hpe] at k1
     have HBn:=hid (zaB w1 (.cells #[.int .i64 op,.slice Pe ne ce,.int .i64 ht,.bool dd] 76))
     have HRw:=hid (hO.1.keep HBn.out)
     rw[hpe] at HRw
     clear hb HS hg hO hpe hht hdd hne
     go_wp2_with fail
     refine bodyPost_ret (v:=.tuple #[.slice Pe ne ce,.int .i64 0]) (by simp[results,Tryz.results102,go_sem]) rfl ?_
     rw[HQ.out]
     exact⟨⟨_,rfl,HRw.out⟩,HB1.out.trans (HBn.out.mono HB1.out.size)⟩
end Go.Proofs.YtlappkflnlbfcaaGreatDoor.Stk
end
