import Derived.Test.YtlappkflnlbfcaaGreatDoorPkStkROpen
namespace Go.Proofs.YtlappkflnlbfcaaGreatDoor.Stk
open Go.RowKit Row9
set_option maxRecDepth 100000
set_option maxHeartbeats 4000000
set_option linter.unusedVariables false
def ours10Ends (s:Stk)(w:World)(e:Ending)(w':World):Prop:=(∃P n c Q m d,e= .returned (.agg #[.slice P n c,.slice Q m d])/\StIs elP w' (.agg #[.slice P n c,.slice Q m d]) s)/\Below w.heap.size w w'
theorem ours10_any {v:Value}{s:Stk}{w:World}(h:StIs elD w v s)(hl:s.cs.length<=400000):Calls Tryz.prog 14 #[v] w (ours10Ends s w):=by
 obtain⟨P,np,cp,Q,m,d,rfl⟩:=StIs.form (T:=elD) h
 obtain⟨l,hrb,hrc,hml,hnv,hnl,hnc⟩:=h.rows
 have HB3:=Lib.hid (below3 w (.cells #[.slice P np cp,.slice Q m d] 30) (.cells #[.slice none 0 0,.slice none 0 0] 39) (.cells #[.slice P np cp,.slice none 0 0] 39))
 have HA:=Lib.hid hrb
 have HC:=Lib.hid hrc
 have HML:=Lib.hid hml
 have HNL:=Lib.hid hnl
 have hbig:m<=400000:=by omega
 have HX0:Hid ((((w.alloc (.cells #[.slice P np cp,.slice Q m d] 30)).alloc (.cells #[.slice none 0 0,.slice none 0 0] 39)).alloc (.cells #[.slice P np cp,.slice none 0 0] 39)).heap[w.heap.size]? = some (.cells #[.slice P np cp,.slice Q m d] 30 (0,0))):=by
  show _=_
  rw[(below2 (w.alloc (.cells #[.slice P np cp,.slice Q m d] 30)) (.cells #[.slice none 0 0,.slice none 0 0] 39) (.cells #[.slice P np cp,.slice none 0 0] 39)).block w.heap.size (by rw[zaD];omega)]
  exact zaC w _
 have HR0:Hid ((((w.alloc (.cells #[.slice P np cp,.slice Q m d] 30)).alloc (.cells #[.slice none 0 0,.slice none 0 0] 39)).alloc (.cells #[.slice P np cp,.slice none 0 0] 39)).heap[w.heap.size+1]? = some (.cells #[.slice none 0 0,.slice none 0 0] 39 (0,0))):=by
  show _=_
  rw[(zaB ((w.alloc (.cells #[.slice P np cp,.slice Q m d] 30)).alloc (.cells #[.slice none 0 0,.slice none 0 0] 39)) (.cells #[.slice P np cp,.slice none 0 0] 39)).block (w.heap.size+1) (by rw[zaD,zaD];omega)]
  have:=zaC (w.alloc (.cells #[.slice P np cp,.slice Q m d] 30)) (.cells #[.slice none 0 0,.slice none 0 0] 39)
  rw[zaD] at this
  exact this
 have HO0:=Lib.hid (zaC ((w.alloc (.cells #[.slice P np cp,.slice Q m d] 30)).alloc (.cells #[.slice none 0 0,.slice none 0 0] 39)) (.cells #[.slice P np cp,.slice none 0 0] 39))
 simp only[zaD] at HO0
 clear h hrb hrc hml hnv hnl hnc hl
 go_enter Tryz.func14,Tryz.ntmps14
 go_wp2_with fail
 generalize ((w.alloc (.cells #[.slice P np cp,.slice Q m d] 30)).alloc (.cells #[.slice none 0 0,.slice none 0 0] 39)).alloc (.cells #[.slice P np cp,.slice none 0 0] 39)=w2 at *
 obtain⟨x,hx⟩:∃x,w.heap.size=x:=⟨_,rfl⟩
 obtain⟨r,hr⟩:∃r,x+1=r:=⟨_,rfl⟩
 obtain⟨o,ho⟩:∃o,r+1=o:=⟨_,rfl⟩
 rw[hx] at HX0 HR0 HO0 HB3
 rw[hr] at HR0 HO0
 rw[ho] at HO0
 have HXR:Hid (x<r/\r<o):=⟨by omega,by omega⟩
 simp only[hx]
 simp only[hr]
 simp only[ho]
 clear hr ho
 go_loopw [4] (fun i' wr=>∃ (i:Nat) (S:Option Addr) (k:Nat),i'= .int .i64 (i:Int)/\i<=m/\Below x w wr/\wr.heap[x]? = some (.cells #[.slice P np cp,.slice Q m d] 30 (0,0))/\wr.heap[r]? = some (.cells #[.slice none 0 0,.slice none 0 0] 39 (0,0))/\wr.heap[o]? = some (.cells #[.slice P np cp,.slice S i k] 39 (0,0))/\Own elP wr x (.slice S i k) (l.take i)) (fun i' _=>m - (intOf i').toNat)
 case atStart=>exact ⟨0,none,0,by go_num,Nat.zero_le _,HB3.out,HX0.out,HR0.out,HO0.out,own_nil _ _ _⟩
 case round=>
  obtain⟨i,S,k,rfl,hi,hbe,hx0,hr0,ho0,hO⟩:=hrel
  have HBe:=Lib.hid hbe
  have HX:=Lib.hid hx0
  have HR:=Lib.hid hr0
  have HOo:=Lib.hid ho0
  have HOw:=Lib.hid hO
  have HWr:Hid (Below w.heap.size w wr):=by rw[hx];exact hbe
  clear hbe hx0 hr0 ho0 hO
  by_cases hlt:i<m
  ·obtain ⟨p,hp⟩:∃p,l[i]? = some p:=⟨_,List.getElem?_eq_getElem (by rw[HNL.out];exact hlt)⟩
   obtain⟨g,off,rfl,hg,k0,k1,k2,k3,hOk⟩:=ctl_at (HC.out.keep HWr.out) hp
   have htk:l.take (i+1)=l.take i ++ [p]:=by
    obtain⟨h1,h2⟩:=List.getElem?_eq_some_iff.1 hp
    rw[List.take_succ_eq_append_getElem h1,h2]
   obtain⟨⟨op,fin,ht,dd⟩,u⟩:=p
   obtain⟨Pe,ce,hpe,_⟩:=hOk.1.form
   obtain⟨ne,hne⟩:∃ne,fin.length=ne:=⟨_,rfl⟩
   simp only at k0 k1 k2 k3 hpe
   rw[hne] at hpe
   subst hpe
   have HOk:=Lib.hid hOk
   have HTK:=Lib.hid htk
   obtain⟨qq,hqq⟩:∃qq,off+i*4=qq:=⟨_,rfl⟩
   rw[hqq] at k0 k1 k2 k3
   have i1:(0:Int)<=(i:Int):=by omega
   have i2:(i:Int)<(m:Int):=by omega
   have hw1:IntKind.i64.wrap ((i:Int)+1)=(i:Int)+1:=IntWalk.i64_in _ (by omega)
   have hxs:x<=wr.heap.size:=by rw[<- hx];exact HWr.out.size
   have HBN:=Lib.hid (below2 wr (.cells #[.int .i64 op,.slice Pe ne ce,.int .i64 ht,.bool dd] 76) (.cells #[.int .i64 op,.slice Pe ne ce,.int .i64 ht,.bool dd] 72))
   obtain⟨a0,a1⟩:=zaH HX.out
   obtain⟨o0,o1⟩:=zaH HOo.out
   have hol:o<wr.heap.size:=lt_of_heap HOo.out
   have hxl:x<wr.heap.size:=lt_of_heap HX.out
   clear hp hOk htk hne
   go_wp2_with (at_builtin;refine stop_ ?_)
   refine Lib.hid ?_
   refine wp_oneG elP 37 Tryz.underlying37 ((wr.alloc (.cells #[.int .i64 op,.slice Pe ne ce,.int .i64 ht,.bool dd] 76)).alloc (.cells #[.int .i64 op,.slice Pe ne ce,.int .i64 ht,.bool dd] 72)) rfl (.tmp 22) (.tmp 32) rfl x _ (l.take i) (⟨op,fin,ht,dd⟩,.slice Pe ne ce) (HOk.out.keep HBN.out) (by rfl) (own_keep HOw.out HBN.out) (wr.heap.size+1) (by rfl) (by
    have:=newG' elP (wr.alloc (.cells #[.int .i64 op,.slice Pe ne ce,.int .i64 ht,.bool dd] 76)) (⟨op,fin,ht,dd⟩,.slice Pe ne ce) #[.int .i64 op,.slice Pe ne ce,.int .i64 ht,.bool dd] _ rfl rfl
    rw[zaD] at this
    exact this) (by rw[List.length_take];omega) (by decide) (Nat.le_trans hxs HBN.out.size) ?_
   intro v7 w7 ho7 hb7 hc7
   obtain⟨S7,c7,hv7⟩:=ho7.form
   have hil:(l.take i ++ [((⟨op,fin,ht,dd⟩:Ctl),Value.slice Pe ne ce)]).length=i+1:=by rw[List.length_append,List.length_take,HNL.out];simp;omega
   rw[hil] at hv7
   subst hv7
   have HOw7:=Lib.hid ho7
   have HO7:=Lib.hid ((hc7 o (Nat.lt_of_lt_of_le hol HBN.out.size) (fun e=>own_notB HOw.out HOo.out (by decide) e.symm rfl)).trans (blk HOo.out HBN.out))
   have HX7:=Lib.hid ((hc7 x (Nat.lt_of_lt_of_le hxl HBN.out.size) (fun e=>own_notB HOw.out HX.out (by decide) e.symm rfl)).trans (blk HX.out HBN.out))
   have HR7:=Lib.hid ((hc7 r (Nat.lt_of_lt_of_le (lt_of_heap HR.out) HBN.out.size) (fun e=>own_notB HOw.out HR.out (by decide) e.symm rfl)).trans (blk HR.out HBN.out))
   have HB7:=Lib.hid ((HBe.out.trans (HBN.out.mono hxs)).trans hb7)
   clear ho7 hb7 hc7 hol hxl a0 a1 o0 o1 hil k0 k1 k2 k3
   obtain⟨o0,o1⟩:=zaH HO7.out
   have op1:=(zaA HO7.out 1).2
   have hol:o<w7.heap.size:=lt_of_heap HO7.out
   simp only[Act.put,List.setIfInBounds_toArray,List.set_cons_succ,List.set_cons_zero]
   go_wp2_with fail
   have HOw8:=Lib.hid (own_stay HOw7.out (w':=w7.setCell ⟨o,1,none⟩ (.slice S7 (i+1) c7)) fun kk hkk=>chg_set w7 o 1 _ kk (World.ownsRow.lt HOw7.out kk hkk).2 (by intro e;exact own_notB HOw7.out HO7.out (by decide) hkk (Option.some.inj e)))
   have HB8:=Lib.hid (HB7.out.setCell (p:=⟨o,1,none⟩) (by show x<=o;have:=HXR.out;omega) (.slice S7 (i+1) c7))
   go_roundw
   case rel=>
    refine⟨i+1,S7,c7,by go_num,hlt,HB8.out,?_,?_,?_,by rw[HTK.out];exact HOw8.out⟩
    ·rw[chg_set w7 o 1 _ x (lt_of_heap HX7.out) (by intro e;have:=HXR.out;have:=Option.some.inj e;omega)]
     exact HX7.out
    ·rw[chg_set w7 o 1 _ r (lt_of_heap HR7.out) (by intro e;have:=HXR.out;have:=Option.some.inj e;omega)]
     exact HR7.out
    ·rw[zaE HO7.out]
     rfl
   case measure=>simp[intOf];omega
  ·obtain rfl:i=m:=by omega
   have HTK:Hid (l.take i=l):=List.take_of_length_le (by rw[HNL.out];exact Nat.le_refl _)
   rw[HTK.out] at HOw
   obtain⟨a0,a1⟩:=zaH HX.out
   obtain⟨o0,o1⟩:=zaH HOo.out
   obtain⟨q0,q1⟩:=zaH HR.out
   have p0:=(zaA HR.out 0).2
   have p1:=(zaA HR.out 1).2
   have hrl:r<wr.heap.size:=lt_of_heap HR.out
   have HRow:=Lib.hid (own_stay HOw.out (w':=(wr.setCell ⟨r,0,none⟩ (.slice P np cp)).setCell ⟨r,1,none⟩ (.slice S i k)) fun kk hkk=>chg2 wr r _ _ kk (World.ownsRow.lt HOw.out kk hkk).2 (by intro e;exact own_notB HOw.out HR.out (by decide) hkk (Option.some.inj e)))
   have HBf:=Lib.hid ((HBe.out.setCell (p:=⟨r,0,none⟩) (by show x<=r;have:=HXR.out;omega) (.slice P np cp)).setCell (p:=⟨r,1,none⟩) (by show x<=r;have:=HXR.out;omega) (.slice S i k))
   obtain⟨f0,f1⟩:=zaH (show ((wr.setCell ⟨r,0,none⟩ (.slice P np cp)).setCell ⟨r,1,none⟩ (.slice S i k)).heap[r]? = some (.cells #[.slice P np cp,.slice S i k] 39 (0,0)) by rw[zaE (zaE HR.out _)];rfl)
   have NE:o≠r:=by have:=HXR.out;omega
   go_wp2_with fail
   generalize (wr.setCell ⟨r,0,none⟩ (.slice P np cp)).setCell ⟨r,1,none⟩ (.slice S i k)=wf at *
   clear q0 q1 p0 p1 a0 a1 o0 o1
   refine bodyPost_ret (v:=.agg #[.slice P np cp,.slice S i k]) (by simp[results,Tryz.results14,go_sem,f0,f1]) rfl ⟨⟨_,_,_,_,_,_,rfl,_,_,l,rfl,?_,?_,HML.out⟩,by rw[hx];exact HBf.out⟩
   ·exact HA.out.keep (by rw[hx];exact HBf.out)
   ·exact Own.row HRow.out fun p hp=>(HC.out.2 p hp).keep (by rw[hx];exact HBf.out)
end Go.Proofs.YtlappkflnlbfcaaGreatDoor.Stk
