/- LebOne, LebTwo. -/
import Derived.Test.YtlappkflnlbfcaaGreatDoorChecked
import Derived.WalkKit
import Derived.OpenShut
import Derived.Lib.Hide
import Derived.Laws.CopyOwn
import Derived.Laws.MakeOwn
import Derived.OwnWalk
import Derived.Deep.AppendLies
import Derived.WalkSpells
import Derived.BigQuiet
import Derived.Laws.BitsAllLaws
import Derived.OneCell
import Derived.Laws.Bits128
import Derived.Test.YtlappkflnlbfcaaGreatDoorPkStabAll
import Derived.Laws.BytesArg
import Derived.LoopN
section
namespace Go.Proofs.YtlappkflnlbfcaaGreatDoor.Leb
end Go.Proofs.YtlappkflnlbfcaaGreatDoor.Leb
namespace Go.Proofs.YtlappkflnlbfcaaGreatDoor.Leb
open Go.RowKit
end Go.Proofs.YtlappkflnlbfcaaGreatDoor.Leb
namespace Go.Proofs.YtlappkflnlbfcaaGreatDoor.Leb
open Go.RowKit
end Go.Proofs.YtlappkflnlbfcaaGreatDoor.Leb
namespace Go.Proofs.YtlappkflnlbfcaaGreatDoor.Leb
open Go.RowKit
end Go.Proofs.YtlappkflnlbfcaaGreatDoor.Leb
namespace Go.Proofs.YtlappkflnlbfcaaGreatDoor.Leb
open Go.RowKit
end Go.Proofs.YtlappkflnlbfcaaGreatDoor.Leb
namespace Go.Proofs.YtlappkflnlbfcaaGreatDoor.Leb
open Go.RowKit
end Go.Proofs.YtlappkflnlbfcaaGreatDoor.Leb
namespace Go.Proofs.YtlappkflnlbfcaaGreatDoor.Leb
open Go.RowKit
end Go.Proofs.YtlappkflnlbfcaaGreatDoor.Leb
namespace Go.Proofs.YtlappkflnlbfcaaGreatDoor.Leb
open Go.RowKit
end Go.Proofs.YtlappkflnlbfcaaGreatDoor.Leb
namespace Go.Proofs.YtlappkflnlbfcaaGreatDoor.Leb
open Go.RowKit
end Go.Proofs.YtlappkflnlbfcaaGreatDoor.Leb
namespace Go.Proofs.YtlappkflnlbfcaaGreatDoor.Leb
open Go.RowKit
end Go.Proofs.YtlappkflnlbfcaaGreatDoor.Leb
namespace Go.Proofs.YtlappkflnlbfcaaGreatDoor.Leb
open Go.RowKit
def Came (k:IntKind)(w:World)(a:Option Addr)(len cap:Nat)(zs:List Int):Prop:=
 (a=none/\len=0/\cap=0/\zs = [])\/
 ∃x,a=some x/\len<=cap/\cap<=maxLen/\zs.length=cap/\(∀i,i<zs.length->w.cell? (x.add i)=some (.int k (zs.getD i 0)))/\∀n∈zs,(Lit.int k n).wf=true
end Go.Proofs.YtlappkflnlbfcaaGreatDoor.Leb
namespace Go.Proofs.YtlappkflnlbfcaaGreatDoor.Leb
open Go.RowKit
end Go.Proofs.YtlappkflnlbfcaaGreatDoor.Leb
namespace Go.Proofs.YtlappkflnlbfcaaGreatDoor.Leb
open Go.RowKit
end Go.Proofs.YtlappkflnlbfcaaGreatDoor.Leb
namespace Go.Proofs.YtlappkflnlbfcaaGreatDoor.Leb
open Go.RowKit
end Go.Proofs.YtlappkflnlbfcaaGreatDoor.Leb
namespace Go.Proofs.YtlappkflnlbfcaaGreatDoor.Leb
open Go.RowKit
end Go.Proofs.YtlappkflnlbfcaaGreatDoor.Leb
end
section
namespace Go.Proofs.YtlappkflnlbfcaaGreatDoor.Leb
open Go.RowKit
end Go.Proofs.YtlappkflnlbfcaaGreatDoor.Leb
namespace Go.Proofs.YtlappkflnlbfcaaGreatDoor.Leb
open Go.RowKit
end Go.Proofs.YtlappkflnlbfcaaGreatDoor.Leb
namespace Go.Proofs.YtlappkflnlbfcaaGreatDoor.Leb
open Go.RowKit
end Go.Proofs.YtlappkflnlbfcaaGreatDoor.Leb
namespace Go.Proofs.YtlappkflnlbfcaaGreatDoor.Leb
open Go.RowKit
end Go.Proofs.YtlappkflnlbfcaaGreatDoor.Leb
namespace Go.Proofs.YtlappkflnlbfcaaGreatDoor.Leb
open Go.RowKit
end Go.Proofs.YtlappkflnlbfcaaGreatDoor.Leb
namespace Go.Proofs.YtlappkflnlbfcaaGreatDoor.Typ
open Go.RowKit
set_option maxRecDepth 100000
set_option maxHeartbeats 400000
def Byt (w:World)(B:Nat)(ad:Addr)(l:List Int):Prop:=ad.block<B/\ad.spot=none/\∀j,j<l.length->w.cell? ⟨ad.block,ad.off+j,none⟩=some (.int .u8 (l.getD j 0))
theorem Byt.keep {w w':World}{B:Nat}{ad:Addr}{l:List Int}(h:Byt w B ad l)(hb:Below B w w'):Byt w' B ad l:=
 ⟨h.1,h.2.1,fun j hj=>by rw[hb.cell (p:=⟨ad.block,ad.off+j,none⟩) h.1];exact h.2.2 j hj⟩
theorem Byt.mono {w:World}{B B':Nat}{ad:Addr}{l:List Int}(h:Byt w B ad l)(hB:B<=B'):Byt w B' ad l:=⟨by have:=h.1;omega,h.2⟩
def Sl (w:World)(v:Value)(l:List Int):Prop:=
 ∃A c,v= .slice A l.length c/\l.length<=c/\c<=9223372036854775807/\(l≠[]->∃g off,A=some ⟨g,off,none⟩/\Byt w w.heap.size ⟨g,off,none⟩ l)
theorem Sl.keep {w w':World}{v:Value}{l:List Int}(h:Sl w v l)(hb:Below w.heap.size w w'):Sl w' v l:=by
 obtain⟨A,c,h1,h2,h3,h4⟩:=h
 refine⟨A,c,h1,h2,h3,fun h0=>?_⟩
 obtain⟨g,off,e,hB⟩:=h4 h0
 exact⟨g,off,e,(hB.keep hb).mono hb.size⟩
theorem Sl.nil (w:World):Sl w (.slice none 0 0) []:=⟨none,0,rfl,Nat.le_refl _,by omega,fun h=>absurd rfl h⟩
theorem cell_spot {w:World}{x:Addr}{v:Value}(h:w.cell? x=some v):x.spot=none:=by
 unfold World.cell? at h
 split at h
 ·split at h
  ·cases h
  ·rename_i hs
   cases hx:x.spot with
   | none=>rfl
   | some _=>rw[hx] at hs;simp at hs
 ·cases h
theorem add_plain (b o j:Nat):(⟨b,o,none⟩:Addr).add j=⟨b,o+j,none⟩:=by
 unfold Addr.add
 split
 ·rename_i h;subst h;rfl
 ·rfl
theorem take_getD (zs:List Int)(n j:Nat)(h:j<n):(zs.take n).getD j 0=zs.getD j 0:=by
 rw[List.getD_eq_getElem?_getD,List.getD_eq_getElem?_getD,List.getElem?_take,if_pos h]
theorem came_parts {k:IntKind}{w:World}{a:Option Addr}{len cap:Nat}{zs:List Int}(h:Leb.Came k w a len cap zs):
  (zs.take len).length=len/\len<=cap/\cap<=9223372036854775807/\(zs.take len≠[]->∃g off,a=some ⟨g,off,none⟩/\g<w.heap.size/\∀j,j<len->w.cell? ⟨g,off+j,none⟩=some (.int k ((zs.take len).getD j 0)))/\∀n∈zs.take len,(Lit.int k n).wf=true:=by
 rcases h with ⟨rfl,rfl,rfl,rfl⟩ | ⟨x,rfl,hl,hm,hz,hc,hw⟩
 ·exact ⟨rfl,Nat.le_refl _,by omega,fun h=>absurd rfl h,by simp⟩
 ·have hlen:(zs.take len).length=len:=by rw[List.length_take];omega
  unfold maxLen at hm
  refine⟨hlen,hl,by omega,fun h0=>?_,fun n hn=>hw n (List.mem_of_mem_take hn)⟩
  have hpos:0<len:=by
   rcases Nat.eq_zero_or_pos len with e | e
   ·rw[e] at h0;simp at h0
   ·exact e
  have h1:=hc 0 (by omega)
  rw[show x.add 0=x from by unfold Addr.add;rw[if_pos rfl]] at h1
  obtain⟨g,off,sp⟩:=x
  obtain rfl:sp=none:=cell_spot h1
  refine⟨g,off,rfl,World.block_lt_of_cell? w _ h1,fun j hj=>?_⟩
  rw[<- add_plain,take_getD zs len j hj]
  exact hc j (by omega)
end Go.Proofs.YtlappkflnlbfcaaGreatDoor.Typ
namespace Go.Proofs.YtlappkflnlbfcaaGreatDoor.Typ
open Go.RowKit Leb
set_option maxRecDepth 100000
set_option maxHeartbeats 1000000
end Go.Proofs.YtlappkflnlbfcaaGreatDoor.Typ
end
