/- The document's own reader of a number that may be below 0, walked: it answers what its digits say. -/
import Derived.Test.YtnminpbnlcgblaaLebRefU
namespace Go.Proofs.Ytnminpbnlcgblaa.Leb
open Go.RowKit

def vSr (s : Int) : List Int → Int
  | [] => s
  | b :: r => wrap64 (wrap64 (vSr s r * 2) + b)
def topS (l : List Int) : Int := if l.getD (l.length - 1) 0 = 1 then -1 else 0
def vS (l : List Int) : Int := vSr (topS l) l
def hiS (bits : Nat) (l : List Int) : Prop := ∀ t, bits ≤ t → t < l.length → l.getD t 0 = l.getD (bits - 1) 0
def UpS (bits : Nat) (l : List Int) (j : Nat) : Prop := ∀ t, bits ≤ t → t < j → l.getD t 0 = l.getD (bits - 1) 0

theorem below_drewN' {B : Nat} {a w : World} (h : Below B a w) (n : Nat) : Below B a (w.drewN n) := ⟨h.os, h.tape, h.output, h.size, h.block⟩

end Go.Proofs.Ytnminpbnlcgblaa.Leb
