/- LebOne, LebTwo. -/
import Derived.WalkKit
import Derived.Test.YtlappkflnlbfcaaGreatDoorChecked
import Derived.OpenShut
import Derived.Lib.Hide
import Derived.Laws.CopyOwn
import Derived.Laws.MakeOwn
import Derived.OwnWalk
import Derived.Deep.AppendLies
import Derived.WalkSpells
import Derived.BigQuiet
import Derived.Laws.BitsAllLaws
import Derived.OneCell
import Derived.Laws.Bits128
import Derived.Test.YtlappkflnlbfcaaGreatDoorPkStabAll
import Derived.Laws.BytesArg
import Derived.LoopN
section
/- Several parts in one text. -/
/- Plain facts on numbers written in bytes of seven digits of two: their lengths, their bytes, how they are read back. No Go in sight. -/
namespace Go.Proofs.YtlappkflnlbfcaaGreatDoor.Leb

/-- The bytes of a number that may be below 0. -/
def sB (v : Int) : List Int := if _h : -64 ≤ v ∧ v ≤ 63 then [v % 128] else (v % 128 + 128) :: sB (v / 128)
termination_by v.natAbs
decreasing_by omega

end Go.Proofs.YtlappkflnlbfcaaGreatDoor.Leb

/- What the two functions that tell a number's length in bytes answer, for every number, and that they leave the world alone. -/
namespace Go.Proofs.YtlappkflnlbfcaaGreatDoor.Leb
open Go.RowKit

theorem ret_int {k : IntKind} {a b : Int} (h : a = b) : Ending.returned (.int k a) = .returned (.int k b) := by rw [h]

theorem ret_bool {a b : Bool} (h : a = b) : Ending.returned (.bool a) = .returned (.bool b) := by rw [h]

/-- Whether seven digits, the highest one the sign's, hold a number. -/
def last (v : Int) : Bool := decide (-64 ≤ v ∧ v ≤ 63)
end Go.Proofs.YtlappkflnlbfcaaGreatDoor.Leb

/- What the two functions that lay a number in bytes answer: the bytes that were handed in, and behind them the number's, in memory of the call's own. -/
namespace Go.Proofs.YtlappkflnlbfcaaGreatDoor.Leb
open Go.RowKit

/-- Bytes as the cells of a row. -/
def vb (l : List Int) : List Value := l.map (Value.int .u8)
theorem vb_length (l : List Int) : (vb l).length = l.length := by simp [vb]
/-- A slice of bytes at address A that reads as l and lies below block B. -/
def Byt (w : World) (B : Nat) (A : Option Addr) (l : List Int) : Prop :=
  0 < l.length → ∃ ad, A = some ad ∧ ad.block < B ∧ ∀ j u, (vb l)[j]? = some u → w.cell? (ad.add j) = some u

/-- A slice of bytes of the call's own, from block B on. -/
def Own (w : World) (B : Nat) (v : Value) (l : List Int) : Prop :=
  (∃ g c, v = .slice (some ⟨g, 0, none⟩) l.length c) ∧ w.ownsRow B 5 1 v l.length (vb l)

/-- How a call ends that hands back bytes of its own and turns nothing that was there. -/
def Laid (w : World) (l : List Int) (e : Ending) (w' : World) : Prop :=
  ∃ v, e = .returned v ∧ Own w' w.heap.size v l ∧ Below w.heap.size w w'

theorem byt_nil (w : World) (B : Nat) (A : Option Addr) : Byt w B A [] := fun h => absurd h (by simp)
theorem Byt.keep {w w' : World} {B : Nat} {A : Option Addr} {l : List Int} (h : Byt w B A l) (hb : Below B w w') : Byt w' B A l := fun hl => by
  obtain ⟨ad, e, hB, hc⟩ := h hl
  refine ⟨ad, e, hB, fun j u hu => ?_⟩
  rw [hb.cell (by rw [show (ad.add j).block = ad.block from by unfold Addr.add; split <;> rfl]; exact hB)]
  exact hc j u hu
theorem Byt.mono {w : World} {B B' : Nat} {A : Option Addr} {l : List Int} (h : Byt w B A l) (hB : B ≤ B') : Byt w B' A l := fun hl => by
  obtain ⟨ad, e, h1, hc⟩ := h hl
  exact ⟨ad, e, by omega, hc⟩

/-- A new byte behind bytes of the call's own. -/
theorem Own.step {w w1 : World} {B : Nat} {v v' : Value} {l : List Int} {x : Int} (_h : Own w B v l) (ho : w1.ownsRow B 5 1 v' (l.length + 1) (vb l ++ [.int .u8 x])) (hn : v' = .slice none 0 0 ↔ v = .slice none 0 0 ∧ 1 = 0) : Own w1 B v' (l ++ [x]) := by
  have ho2 : w1.ownsRow B 5 1 v' (l ++ [x]).length (vb (l ++ [x])) := by simpa [vb] using ho
  refine ⟨?_, ho2⟩
  rcases ho2.2 with ⟨e, _⟩ | ⟨g, c, cur, e, _⟩
  · exact absurd (hn.1 e).2 (by omega)
  · exact ⟨g, c, e⟩

theorem Own.block {w : World} {B : Nat} {v : Value} {l : List Int} (h : Own w B v l) : ∀ k, v.ownBlock = some k → B ≤ k := fun k hk => (h.2.lt k hk).1
theorem Own.alloc {w : World} {B : Nat} {v : Value} {l : List Int} (h : Own w B v l) (o : Obj) : Own (w.alloc o) B v l := ⟨h.1, h.2.alloc o⟩
theorem Own.mono {w : World} {B B' : Nat} {v : Value} {l : List Int} (h : Own w B v l) (hb : B' ≤ B) : Own w B' v l := by
  refine ⟨h.1, h.2.1, ?_⟩
  rcases h.2.2 with e | ⟨g, c, cur, e, hB, r⟩
  · exact .inl e
  · exact .inr ⟨g, c, cur, e, by omega, r⟩
theorem Own.byt {w : World} {B : Nat} {A : Option Addr} {n c : Nat} {l : List Int} (h : Own w B (.slice A n c) l) : Byt w w.heap.size A l := by
  intro hl
  obtain ⟨g, c', e⟩ := h.1
  have hA : A = some ⟨g, 0, none⟩ := by injection e
  subst hA
  refine ⟨_, rfl, (h.2.lt g rfl).2, fun j u hu => h.2.cells (g := g) rfl j u hu⟩
end Go.Proofs.YtlappkflnlbfcaaGreatDoor.Leb

/- The small functions that reading a number asks: whether the last byte fits, and how the sign goes on upwards; and the closure that takes the bytes. -/
namespace Go.Proofs.YtlappkflnlbfcaaGreatDoor.Leb
open Go.RowKit

def fitU (c : Int) (d : Nat) : Bool := decide (c < 2 ^ d)
def fitS (c : Int) (d : Nat) : Bool := decide (c < 2 ^ (d - 1)) || decide (128 - 2 ^ (d - 1) ≤ c)

/-- A number's lowest m digits, the highest one going on upwards. -/
def ext (v m : Nat) : Int := if 64 ≤ m then wrap64 v else wrap64 (IntKind.u64.wrap ((v : Int) * 2 ^ (64 - m))) / 2 ^ (64 - m)

end Go.Proofs.YtlappkflnlbfcaaGreatDoor.Leb

/- The function that gathers a number's digits, walked for both ways to ask its last byte: what it answers is what a plain function on the bytes says. -/
namespace Go.Proofs.YtlappkflnlbfcaaGreatDoor.Leb
open Go.RowKit

/-- How reading ends. -/
inductive RU where
  | short
  | form
  | ok (v m : Nat)

/-- Seven digits more, above lo others. -/
def more (acc lo : Nat) (c : Int) : Nat := acc + (c % 128).toNat * 2 ^ lo % 18446744073709551616

/-- Bytes read from the front, lo digits having been gathered. -/
def rdl (fit : Int → Nat → Bool) (bits : Nat) : List Int → Nat → Nat → RU
  | [], _, _ => .short
  | c :: r, lo, acc =>
    if bits ≤ lo + 7 ∧ (128 ≤ c ∨ fit c (bits - lo) = false) then .form
    else if c < 128 then .ok (more acc lo c) (lo + 7)
    else rdl fit bits r (lo + 7) (more acc lo c)

/-- What the loop keeps. -/
structure Loop (fit : Int → Nat → Bool) (bits at_ : Nat) (l : List Int) (A : Option Addr) (c : Nat) (w : World) (k lo acc : Nat) (wr : World) : Prop where
  low : 7 * k = 7 * at_ + lo
  lt : lo < bits
  lim : acc < 2 ^ lo
  same : rdl fit bits (l.drop k) lo acc = rdl fit bits (l.drop at_) 0 0
  le : k ≤ l.length
  cat : wr.cell? ⟨w.heap.size + 1, 0, none⟩ = some (.int .i64 (k : Int))
  fr : wr.frozen? ⟨w.heap.size + 1, 0, none⟩ = false
  cb : wr.cell? ⟨w.heap.size, 0, none⟩ = some (.slice A l.length c)
  bel : Below w.heap.size w wr
  big : w.heap.size + 1 < wr.heap.size

theorem Loop.next {fit : Int → Nat → Bool} {bits at_ : Nat} {l : List Int} {A : Option Addr} {c : Nat} {w wr : World} {k lo acc : Nat} (h : Loop fit bits at_ l A c w k lo acc wr) {x : Int} (hx : l[k]? = some x) (h0 : 128 ≤ x) (hb : lo + 7 < bits) (h64 : bits ≤ 64) (m : Nat) :
    Loop fit bits at_ l A c w (k + 1) (lo + 7) (more acc lo x) ((wr.setCell ⟨w.heap.size + 1, 0, none⟩ (.int .i64 ((k : Int) + 1))).drewN m) := by
  have hlt : k < l.length := (List.getElem?_eq_some_iff.1 hx).1
  refine ⟨by have := h.low; omega, hb, ?_, ?_, by omega, ?_, ?_, ?_, ?_, ?_⟩
  · have hp : (2 : Nat) ^ (lo + 7) = 2 ^ lo * 128 := by rw [Nat.pow_add]
    have h3 : (2 : Nat) ^ (lo + 7) ≤ 2 ^ 63 := Nat.pow_le_pow_right (by omega) (by omega)
    have ha := h.lim
    have h4 : (x % 128).toNat * 2 ^ lo ≤ 127 * 2 ^ lo := Nat.mul_le_mul_right _ (by omega)
    have h5 := Nat.mod_le ((x % 128).toNat * 2 ^ lo) 18446744073709551616
    unfold more
    rw [hp]
    omega
  · rw [← h.same]
    have hd : l.drop k = x :: l.drop (k + 1) := by
      rw [List.drop_eq_getElem_cons hlt]
      congr 1
      exact (List.getElem?_eq_some_iff.1 hx).2
    rw [hd, rdl, if_neg (by omega), if_neg (by omega)]
  · show (wr.setCell _ _).cell? _ = _
    rw [World.cell?_setCell_same _ _ _ h.cat]
    congr 1
  · show (wr.setCell _ _).frozen? _ = _
    rw [World.frozen?_setCell]
    exact h.fr
  · show (wr.setCell _ _).cell? _ = _
    rw [World.cell?_setCell_other _ _ _ _ (by intro e; injection e with e; omega)]
    exact h.cb
  · have := h.bel.setCell (p := ⟨w.heap.size + 1, 0, none⟩) (by simp) (.int .i64 ((k : Int) + 1))
    exact ⟨this.os, this.tape, this.output, this.size, this.block⟩
  · show _ < (wr.setCell _ _).heap.size
    have := h.big
    simpa [World.setCell] using this

theorem Loop.below {fit : Int → Nat → Bool} {bits at_ : Nat} {l : List Int} {A : Option Addr} {c : Nat} {w wr : World} {k lo acc : Nat} (h : Loop fit bits at_ l A c w k lo acc wr) (v : Value) (m : Nat) : Below w.heap.size w ((wr.setCell ⟨w.heap.size + 1, 0, none⟩ v).drewN m) := by
  have := h.bel.setCell (p := ⟨w.heap.size + 1, 0, none⟩) (by simp) v
  exact ⟨this.os, this.tape, this.output, this.size, this.block⟩

theorem drop_at {l : List Int} {k : Nat} {x : Int} (hx : l[k]? = some x) : l.drop k = x :: l.drop (k + 1) := by
  have hlt := (List.getElem?_eq_some_iff.1 hx).1
  rw [List.drop_eq_getElem_cons hlt]
  congr 1
  exact (List.getElem?_eq_some_iff.1 hx).2

end Go.Proofs.YtlappkflnlbfcaaGreatDoor.Leb

/- The function that gathers a number's digits, walked for a number that may be below 0. -/
namespace Go.Proofs.YtlappkflnlbfcaaGreatDoor.Leb
open Go.RowKit

end Go.Proofs.YtlappkflnlbfcaaGreatDoor.Leb

/- The two functions that read a number of any bytes, at any place, of any width: what they answer, wrong arguments included. -/
namespace Go.Proofs.YtlappkflnlbfcaaGreatDoor.Leb
open Go.RowKit

end Go.Proofs.YtlappkflnlbfcaaGreatDoor.Leb

/- Plain facts on reading numbers: what is laid is read as it was, by a width that has it; more bytes that say nothing are read, too; a greater width reads the same. -/
namespace Go.Proofs.YtlappkflnlbfcaaGreatDoor.Leb
open Go.RowKit

theorem ten_of {Q : Nat → Prop} (h0 : Q 0) (h1 : Q 7) (h2 : Q 14) (h3 : Q 21) (h4 : Q 28) (h5 : Q 35) (h6 : Q 42) (h7 : Q 49) (h8 : Q 56) (h9 : Q 63) (lo : Nat) (hlo : lo ≤ 63) (hm : lo % 7 = 0) : Q lo := by
  have : lo = 0 ∨ lo = 7 ∨ lo = 14 ∨ lo = 21 ∨ lo = 28 ∨ lo = 35 ∨ lo = 42 ∨ lo = 49 ∨ lo = 56 ∨ lo = 63 := by omega
  rcases this with rfl | rfl | rfl | rfl | rfl | rfl | rfl | rfl | rfl | rfl <;> assumption

theorem stepS (acc : Nat) (s : Int) (lo : Nat) (hlo : lo ≤ 56) (hm : lo % 7 = 0) (ha : acc < 2 ^ lo) : more acc lo (s % 128 + 128) < 2 ^ (lo + 7) ∧ (more acc lo (s % 128 + 128) : Int) + s / 128 * 2 ^ (lo + 7) = (acc : Int) + s * 2 ^ lo := by
  revert ha
  refine ten_of (Q := fun lo => lo ≤ 56 → acc < 2 ^ lo → more acc lo (s % 128 + 128) < 2 ^ (lo + 7) ∧ (more acc lo (s % 128 + 128) : Int) + s / 128 * 2 ^ (lo + 7) = (acc : Int) + s * 2 ^ lo) ?_ ?_ ?_ ?_ ?_ ?_ ?_ ?_ ?_ ?_ lo (by omega) hm hlo <;>
  · intro h56 ha
    first
      | (simp only [more] at ha ⊢; omega)
      | omega

end Go.Proofs.YtlappkflnlbfcaaGreatDoor.Leb

/- The two functions of the program that lay a number in bytes, walked: what they hand back is what was handed in and the number's bytes behind it. -/
namespace Go.Proofs.YtlappkflnlbfcaaGreatDoor.Leb
open Go.RowKit

/-- Within the laying loop: what is done and what is left are together what was asked. -/
def Mid (w : World) (B : Nat) (all rest : List Int) (v : Value) (wr : World) : Prop :=
  ∃ done : List Int, done ++ rest = all ∧ Own wr B v done ∧ Below B w wr ∧ B ≤ wr.heap.size

theorem Mid.step {w wr w1 : World} {B : Nat} {all rest : List Int} {x : Int} {v' : Value} {done : List Int} (hall : done ++ (x :: rest) = all) (hb : Below B w wr) (hB : B ≤ wr.heap.size) (ho : Own w1 B v' (done ++ [x])) (hg : Below B wr w1) :
    Mid w B all rest v' w1 :=
  ⟨done ++ [x], by simpa using hall, ho, hb.trans hg, Nat.le_trans hB hg.size⟩

theorem Mid.end_ {w wr w1 : World} {all : List Int} {x : Int} {v' : Value} {done : List Int} (hall : done ++ [x] = all) (hb : Below w.heap.size w wr) (ho : Own w1 w.heap.size v' (done ++ [x])) (hg : Below w.heap.size wr w1) :
    Laid w all (.returned v') w1 := by
  subst hall
  exact ⟨_, rfl, ho, hb.trans hg⟩

end Go.Proofs.YtlappkflnlbfcaaGreatDoor.Leb

/- The document's two examples, as every statement of layer 1 asks them first: the program lays them as the document says. -/
namespace Go.Proofs.YtlappkflnlbfcaaGreatDoor.Leb
open Go.RowKit

end Go.Proofs.YtlappkflnlbfcaaGreatDoor.Leb

/- A slice of bytes that came in, as a row tells it: it reads as a list of bytes, and lies in memory that was there. -/
namespace Go.Proofs.YtlappkflnlbfcaaGreatDoor.Leb
open Go.RowKit

/-- A slice of bytes that came in, as the row tells it. -/
def Came (k : IntKind) (w : World) (a : Option Addr) (len cap : Nat) (zs : List Int) : Prop :=
  (a = none ∧ len = 0 ∧ cap = 0 ∧ zs = []) ∨
  ∃ x, a = some x ∧ len ≤ cap ∧ cap ≤ maxLen ∧ zs.length = cap ∧ (∀ i, i < zs.length → w.cell? (x.add i) = some (.int k (zs.getD i 0))) ∧ ∀ n ∈ zs, (Lit.int k n).wf = true

theorem Came.byt {w : World} {a : Option Addr} {len cap : Nat} {zs : List Int} (h : Came .u8 w a len cap zs) :
    Byt w w.heap.size a (zs.take len) ∧ (zs.take len).length = len ∧ (∀ x ∈ zs.take len, 0 ≤ x ∧ x ≤ 255) ∧ len ≤ 9223372036854775807 := by
  rcases h with ⟨rfl, rfl, rfl, rfl⟩ | ⟨x, rfl, hl, hm, hz, hc, hw⟩
  · exact ⟨byt_nil _ _ _, rfl, by simp, by omega⟩
  · have hlen : (zs.take len).length = len := by rw [List.length_take]; omega
    unfold maxLen at hm
    refine ⟨fun h0 => ?_, hlen, fun y hy => bounds_u8 (hw y (List.mem_of_mem_take hy)), by omega⟩
    have h1 := hc 0 (by omega)
    refine ⟨x, rfl, ?_, fun j u hu => ?_⟩
    · have := World.block_lt_of_cell? w _ h1
      rwa [show (x.add 0).block = x.block from by unfold Addr.add; split <;> rfl] at this
    · have hj : j < len := by
        rcases Nat.lt_or_ge j len with h | h
        · exact h
        · rw [List.getElem?_eq_none (by rw [vb_length, hlen]; exact h)] at hu; cases hu
      rw [hc j (by omega)]
      rw [← hu]
      simp [vb, hj, show j < zs.length by omega]

end Go.Proofs.YtlappkflnlbfcaaGreatDoor.Leb

/- Small facts that the statements of layer 1 share: a slice that came in, how an answer is told, masks. -/
namespace Go.Proofs.YtlappkflnlbfcaaGreatDoor.Leb
open Go.RowKit

end Go.Proofs.YtlappkflnlbfcaaGreatDoor.Leb

/- The document's own functions that lay a number in bytes, walked: they hand back the same bytes as the program's. -/
namespace Go.Proofs.YtlappkflnlbfcaaGreatDoor.Leb
open Go.RowKit

end Go.Proofs.YtlappkflnlbfcaaGreatDoor.Leb

/- LebBack walked: a number that is laid is read as it was, by its width and any greater one; by a lesser one it is not; a byte less is too short. -/
namespace Go.Proofs.YtlappkflnlbfcaaGreatDoor.Leb
open Go.RowKit

theorem Own.slice {w : World} {B : Nat} {v : Value} {l : List Int} (h : Own w B v l) : ∃ A c, v = .slice A l.length c ∧ Byt w w.heap.size A l := by
  obtain ⟨g, c, rfl⟩ := h.1
  exact ⟨_, c, rfl, h.byt⟩

theorem Own.keep {w w' : World} {B : Nat} {v : Value} {l : List Int} (h : Own w B v l) (hb : Below w.heap.size w w') : Own w' B v l :=
  ⟨h.1, h.2.kept ⟨hb.os, hb.tape, hb.output, hb.size, fun k hk _ => hb.block k hk⟩ (row := none) (by cases v.ownBlock <;> simp)⟩

end Go.Proofs.YtlappkflnlbfcaaGreatDoor.Leb

/- LebOrder walked: numbers one behind the other are read as they were laid. -/
namespace Go.Proofs.YtlappkflnlbfcaaGreatDoor.Leb
open Go.RowKit

/-- A slice of whole numbers that reads as l and lies below block B. -/
def Ints (k : IntKind) (w : World) (B : Nat) (A : Option Addr) (l : List Int) : Prop :=
  0 < l.length → ∃ b off, A = some ⟨b, off, none⟩ ∧ b < B ∧ ∀ (i : Nat) (x : Int), l[i]? = some x → w.cell? ⟨b, off + i, none⟩ = some (.int k x)

theorem Ints.at_ {k : IntKind} {w wr : World} {A : Option Addr} {l : List Int} (h : Ints k w w.heap.size A l) (hb : Below w.heap.size w wr) {j : Nat} {x : Int} (hx : l[j]? = some x) :
    ∃ b off, A = some ⟨b, off, none⟩ ∧ wr.cell? ⟨b, off + j, none⟩ = some (.int k x) := by
  obtain ⟨b, off, e, hB, hc⟩ := h (by have := (List.getElem?_eq_some_iff.1 hx).1; omega)
  exact ⟨b, off, e, (hb.cell (p := ⟨b, off + j, none⟩) hB).trans (hc j x hx)⟩

def cS (l : List Int) : List Int := l.flatMap sB
/-- A slice of bytes, wherever it lies. -/
def Acc (w : World) (wr : World) (s : Value) (l : List Int) : Prop := ∃ A c, s = .slice A l.length c ∧ Byt wr wr.heap.size A l ∧ Below w.heap.size w wr
theorem Acc.next {w wr w1 : World} {l : List Int} {A : Option Addr} {c : Nat} {s : Value} (h : Acc w wr (.slice A l.length c) l) {l' : List Int} (ho : Own w1 wr.heap.size s l') (hb : Below wr.heap.size wr w1) : Acc w w1 s l' := by
  obtain ⟨_, _, _, _, hb0⟩ := h
  obtain ⟨A', c', e, hy⟩ := ho.slice
  exact ⟨A', c', e, hy, hb0.trans (hb.mono hb0.size)⟩

end Go.Proofs.YtlappkflnlbfcaaGreatDoor.Leb
end

section
/- Several parts in one text. -/
/- The document's own function that tells a number's digits, walked: digits of two, the lowest first, seven a byte. -/
namespace Go.Proofs.YtlappkflnlbfcaaGreatDoor.Leb
open Go.RowKit

def vi (l : List Int) : List Value := l.map (Value.int .i64)
/-- A slice of whole numbers of the call's own, nil or not. -/
def OwnI (w : World) (B : Nat) (v : Value) (l : List Int) : Prop := w.ownsRow B 3 1 v l.length (vi l)
theorem int_info : (Tryz.prog.info? 3).map (fun i => (i.zero, i.size, i.bytes)) = some (some (.int .i64 0), 1, 8) := by kernel_rfl
theorem one_newI (w : World) (v : Value) : ∀ j u, [v][j]? = some u → (w.alloc (.cells #[v] 3)).cell? ((⟨w.heap.size, 0, none⟩ : Addr).add j) = some u := by
  intro j u hu
  rcases j with _ | j
  · simp at hu
    subst hu
    simp [Addr.add]
  · simp at hu
theorem OwnI.keep {w w' : World} {B : Nat} {v : Value} {l : List Int} (h : OwnI w B v l) (hb : Below w.heap.size w w') : OwnI w' B v l :=
  World.ownsRow.kept h ⟨hb.os, hb.tape, hb.output, hb.size, fun k hk _ => hb.block k hk⟩ (row := none) (by cases v.ownBlock <;> simp)

/-- The seven lowest digits of a byte. -/
def b7 (c : Int) : List Int := [c % 2, c / 2 % 2, c / 4 % 2, c / 8 % 2, c / 16 % 2, c / 32 % 2, c / 64 % 2]

end Go.Proofs.YtlappkflnlbfcaaGreatDoor.Leb

/- The document's own reader of a number that is not below 0, walked: it answers what its digits say. -/
namespace Go.Proofs.YtlappkflnlbfcaaGreatDoor.Leb
open Go.RowKit

theorem OwnI.cell {w : World} {B g cp : Nat} {bl : List Int} (h : OwnI w B (.slice (some ⟨g, 0, none⟩) bl.length cp) bl) (t : Nat) (ht : t < bl.length) : w.cell? ⟨g, t, none⟩ = some (.int .i64 (bl.getD t 0)) := by
  have := World.ownsRow.cellAt h t (by omega)
  rw [this]
  simp [vi, ht]

end Go.Proofs.YtlappkflnlbfcaaGreatDoor.Leb

/- The document's own reader of a number that may be below 0, walked: it answers what its digits say. -/
namespace Go.Proofs.YtlappkflnlbfcaaGreatDoor.Leb
open Go.RowKit

def vSr (s : Int) : List Int → Int
  | [] => s
  | b :: r => wrap64 (wrap64 (vSr s r * 2) + b)
def topS (l : List Int) : Int := if l.getD (l.length - 1) 0 = 1 then -1 else 0
def vS (l : List Int) : Int := vSr (topS l) l
end Go.Proofs.YtlappkflnlbfcaaGreatDoor.Leb

/- Plain facts: what the program's reader and the document's say of any bytes is the same. -/
namespace Go.Proofs.YtlappkflnlbfcaaGreatDoor.Leb
open Go.RowKit

end Go.Proofs.YtlappkflnlbfcaaGreatDoor.Leb

/- LebReads walked: what is read of any bytes, from any place, of any width, is what the document says. -/
namespace Go.Proofs.YtlappkflnlbfcaaGreatDoor.Leb
open Go.RowKit

end Go.Proofs.YtlappkflnlbfcaaGreatDoor.Leb

/- Bytes somewhere in memory, as the texts of layer 4 take them; their text; a new byte behind others. -/
namespace Go.Proofs.YtlappkflnlbfcaaGreatDoor.Typ
open Go.RowKit
set_option maxRecDepth 100000
set_option maxHeartbeats 400000

def vb (l : List Int) : List Value := l.map (Value.int .u8)
theorem vb_length (l : List Int) : (vb l).length = l.length := by simp [vb]
/-- A slice of bytes at an address that reads as l and lies below block B. -/
def Byt (w : World) (B : Nat) (ad : Addr) (l : List Int) : Prop := ad.block < B ∧ ad.spot = none ∧ ∀ j, j < l.length → w.cell? ⟨ad.block, ad.off + j, none⟩ = some (.int .u8 (l.getD j 0))
theorem Byt.keep {w w' : World} {B : Nat} {ad : Addr} {l : List Int} (h : Byt w B ad l) (hb : Below B w w') : Byt w' B ad l :=
  ⟨h.1, h.2.1, fun j hj => by rw [hb.cell (p := ⟨ad.block, ad.off + j, none⟩) h.1]; exact h.2.2 j hj⟩
theorem Byt.mono {w : World} {B B' : Nat} {ad : Addr} {l : List Int} (h : Byt w B ad l) (hB : B ≤ B') : Byt w B' ad l := ⟨by have := h.1; omega, h.2⟩
theorem Byt.take {w : World} {B : Nat} {ad : Addr} {l : List Int} (h : Byt w B ad l) (n : Nat) : Byt w B ad (l.take n) := ⟨h.1, h.2.1, fun j hj => by
  rw [List.length_take] at hj
  rw [h.2.2 j (by omega), show (l.take n).getD j 0 = l.getD j 0 from by rw [List.getD_eq_getElem?_getD, List.getD_eq_getElem?_getD, List.getElem?_take, if_pos (by omega)]]⟩
/-- Its text. -/
theorem run_txt (w : World) (g off n c : Nat) (l : List Int) (hl : l.length = n) (h : ∀ i, i < n → w.cell? ⟨g, off + i, none⟩ = some (.int .u8 (l.getD i 0))) : (convert 25 9 (.slice (some ⟨g, off, none⟩) n c)).run Tryz.prog w = .ok (.string (strOfNums l)) w :=
  run_convert_bytes_arg w 25 5 Tryz.underlying25 Tryz.underlying5 g off n c l hl h 9 Tryz.underlying9
/-- Texts are one just if their bytes are. -/
theorem str_inj {a b : List Int} (ha : ∀ x ∈ a, 0 ≤ x ∧ x < 256) (hb : ∀ x ∈ b, 0 ≤ x ∧ x < 256) (h : strOfNums a = strOfNums b) : a = b := by
  have e := congrArg (fun s => s.data.toList) h
  simp only [strOfNums_data] at e
  have key : ∀ (a b : List Int), (∀ x ∈ a, 0 ≤ x ∧ x < 256) → (∀ x ∈ b, 0 ≤ x ∧ x < 256) → (a.map fun n => UInt8.ofNat n.toNat) = (b.map fun n => UInt8.ofNat n.toNat) → a = b := by
    intro a
    induction a with
    | nil => intro b _ _ h; cases b with
      | nil => rfl
      | cons y b => simp at h
    | cons x a ih => intro b ha hb h; cases b with
      | nil => simp at h
      | cons y b =>
        simp only [List.map_cons, List.cons.injEq] at h
        have hx := ha x (by simp)
        have hy := hb y (by simp)
        have h1 := congrArg UInt8.toNat h.1
        simp only [UInt8.toNat_ofNat'] at h1
        have : x = y := by omega
        rw [this, ih b (fun z hz => ha z (by simp [hz])) (fun z hz => hb z (by simp [hz])) h.2]
  exact key a b ha hb e
theorem Byt.drop {w : World} {B g off : Nat} {l : List Int} (h : Byt w B ⟨g, off, none⟩ l) (k : Nat) : Byt w B ⟨g, off + k, none⟩ (l.drop k) := ⟨h.1, rfl, fun j hj => by
  rw [List.length_drop] at hj
  have := h.2.2 (k + j) (by omega)
  rw [show off + k + j = off + (k + j) from by omega]
  show w.cell? ⟨g, off + (k + j), none⟩ = _
  rw [show (l.drop k).getD j 0 = l.getD (k + j) 0 from by rw [List.getD_eq_getElem?_getD, List.getD_eq_getElem?_getD, List.getElem?_drop]]
  exact this⟩
/-- Bytes: none at all (wherever), or a row of them somewhere. -/
def Sl (w : World) (v : Value) (l : List Int) : Prop :=
  ∃ A c, v = .slice A l.length c ∧ l.length ≤ c ∧ c ≤ 9223372036854775807 ∧ (l ≠ [] → ∃ g off, A = some ⟨g, off, none⟩ ∧ Byt w w.heap.size ⟨g, off, none⟩ l)
theorem Sl.keep {w w' : World} {v : Value} {l : List Int} (h : Sl w v l) (hb : Below w.heap.size w w') : Sl w' v l := by
  obtain ⟨A, c, h1, h2, h3, h4⟩ := h
  refine ⟨A, c, h1, h2, h3, fun h0 => ?_⟩
  obtain ⟨g, off, e, hB⟩ := h4 h0
  exact ⟨g, off, e, (hB.keep hb).mono hb.size⟩
theorem Sl.nil (w : World) : Sl w (.slice none 0 0) [] := ⟨none, 0, rfl, Nat.le_refl _, by omega, fun h => absurd rfl h⟩
/-- Bytes of the call's own, from block B on (nil, if there are none yet). -/
def OwnB (w : World) (B : Nat) (v : Value) (l : List Int) : Prop := w.ownsRow B 5 1 v l.length (vb l)
theorem OwnB.block {w : World} {B : Nat} {v : Value} {l : List Int} (h : OwnB w B v l) : ∀ k, v.ownBlock = some k → B ≤ k := fun k hk => (World.ownsRow.lt h k hk).1
theorem OwnB.keep {w w' : World} {B : Nat} {v : Value} {l : List Int} (h : OwnB w B v l) (hb : Below w.heap.size w w') : OwnB w' B v l :=
  World.ownsRow.kept h ⟨hb.os, hb.tape, hb.output, hb.size, fun k hk _ => hb.block k hk⟩ (row := none) (by cases v.ownBlock <;> simp)
theorem Byt.cells {w : World} {B g off : Nat} {l : List Int} (h : Byt w B ⟨g, off, none⟩ l) : ∀ j u, (vb l)[j]? = some u → w.cell? ((⟨g, off, none⟩ : Addr).add j) = some u := by
  intro j u hu
  unfold vb at hu
  rw [List.getElem?_map] at hu
  by_cases hj : j < l.length
  · have e := h.2.2 j hj
    rw [List.getElem?_eq_getElem hj] at hu
    simp at hu
    subst hu
    have e2 : l.getD j 0 = l[j] := by simp [hj]
    rw [e2] at e
    cases j with
    | zero => simpa [Addr.add] using e
    | succ j => simpa [Addr.add] using e
  · rw [List.getElem?_eq_none (by omega)] at hu
    simp at hu
theorem own_cells {w : World} {B g cap : Nat} {v : Value} {n : Nat} {xs : List Value} {t : TypeId} (h : w.ownsRow B t 1 v n xs) (hv : v = .slice (some ⟨g, 0, none⟩) n cap) : ∀ j u, xs[j]? = some u → w.cell? ⟨g, 0 + j, none⟩ = some u := by
  intro j u hu
  have e := World.ownsRow.cells h (g := g) (by subst hv; rfl) j u hu
  cases j with
  | zero => simpa [Addr.add] using e
  | succ j => simpa [Addr.add] using e
theorem OwnB.sl {w : World} {B : Nat} {v : Value} {l : List Int} (h : OwnB w B v l) : Sl w v l := by
  have h' := h
  obtain ⟨_, ⟨hv, hl⟩ | ⟨g, cap, cur, hv, hB, hc, hle, hm, hsz, ht⟩⟩ := h'
  · have : l = [] := List.length_eq_zero_iff.1 hl
    subst this
    exact ⟨none, 0, hv, Nat.le_refl _, by omega, fun h => absurd rfl h⟩
  · refine ⟨_, cap, hv, hle, by unfold maxLen at hm; omega, fun h0 => ⟨g, 0, rfl, ?_, rfl, fun j hj => own_cells h hv j _ ?_⟩⟩
    · exact (Array.getElem?_eq_some_iff.1 hc).1
    · unfold vb; rw [List.getElem?_map, List.getElem?_eq_getElem hj]; simp [hj]
theorem cell_spot {w : World} {x : Addr} {v : Value} (h : w.cell? x = some v) : x.spot = none := by
  unfold World.cell? at h
  split at h
  · split at h
    · cases h
    · rename_i hs
      cases hx : x.spot with
      | none => rfl
      | some _ => rw [hx] at hs; simp at hs
  · cases h
theorem add_plain (b o j : Nat) : (⟨b, o, none⟩ : Addr).add j = ⟨b, o + j, none⟩ := by
  unfold Addr.add
  split
  · rename_i h; subst h; rfl
  · rfl
theorem take_getD (zs : List Int) (n j : Nat) (h : j < n) : (zs.take n).getD j 0 = zs.getD j 0 := by
  rw [List.getD_eq_getElem?_getD, List.getD_eq_getElem?_getD, List.getElem?_take, if_pos h]
theorem came_parts {k : IntKind} {w : World} {a : Option Addr} {len cap : Nat} {zs : List Int} (h : Leb.Came k w a len cap zs) :
    (zs.take len).length = len ∧ len ≤ cap ∧ cap ≤ 9223372036854775807 ∧ (zs.take len ≠ [] → ∃ g off, a = some ⟨g, off, none⟩ ∧ g < w.heap.size ∧ ∀ j, j < len → w.cell? ⟨g, off + j, none⟩ = some (.int k ((zs.take len).getD j 0))) ∧ ∀ n ∈ zs.take len, (Lit.int k n).wf = true := by
  rcases h with ⟨rfl, rfl, rfl, rfl⟩ | ⟨x, rfl, hl, hm, hz, hc, hw⟩
  · exact ⟨rfl, Nat.le_refl _, by omega, fun h => absurd rfl h, by simp⟩
  · have hlen : (zs.take len).length = len := by rw [List.length_take]; omega
    unfold maxLen at hm
    refine ⟨hlen, hl, by omega, fun h0 => ?_, fun n hn => hw n (List.mem_of_mem_take hn)⟩
    have hpos : 0 < len := by
      rcases Nat.eq_zero_or_pos len with e | e
      · rw [e] at h0; simp at h0
      · exact e
    have h1 := hc 0 (by omega)
    rw [show x.add 0 = x from by unfold Addr.add; rw [if_pos rfl]] at h1
    obtain ⟨g, off, sp⟩ := x
    obtain rfl : sp = none := cell_spot h1
    refine ⟨g, off, rfl, World.block_lt_of_cell? w _ h1, fun j hj => ?_⟩
    rw [← add_plain, take_getD zs len j hj]
    exact hc j (by omega)
theorem OwnB.row {w : World} {B : Nat} {v : Value} {l : List Int} (h : OwnB w B v l) : ∃ A c, v = .slice A l.length c ∧ Sl w (.slice A l.length c) l := by
  have hs := h.sl
  obtain ⟨A, c, e, _⟩ := h.sl
  exact ⟨A, c, e, by rw [← e]; exact hs⟩
end Go.Proofs.YtlappkflnlbfcaaGreatDoor.Typ

/- Numbers of 32 digits in bytes: how great, how many bytes, cut short. Plain lists. -/
namespace Go.Proofs.YtlappkflnlbfcaaGreatDoor.Typ
open Go.RowKit Leb
set_option maxRecDepth 100000
set_option maxHeartbeats 1000000

end Go.Proofs.YtlappkflnlbfcaaGreatDoor.Typ
end
