/- Small facts that the statements of layer 1 share: a slice that came in, how an answer is told, masks. -/
import Derived.Test.YtnminpbnlcgblaaLebReads
import Derived.Laws.Bits128
import Derived.Test.YtnminpbnlcgblaaLebRow
namespace Go.Proofs.Ytnminpbnlcgblaa.Leb
open Go.RowKit

def uV : RU → Int
  | .ok v _ => v
  | _ => 0
def sV : RU → Int
  | .ok v m => ext v m
  | _ => 0
def uP (at_ : Nat) : RU → Int
  | .ok _ m => ((at_ + m / 7 : Nat) : Int)
  | _ => 0
def uE : RU → Int
  | .ok _ _ => 0
  | .short => 2
  | .form => 3
theorem ansU_eq (at_ : Nat) (r : RU) : ansU at_ r = .tuple #[.int .u64 (uV r), .int .i64 (uP at_ r), .int .i64 (uE r)] := by cases r <;> rfl
theorem ansS_eq (at_ : Nat) (r : RU) : ansS at_ r = .tuple #[.int .i64 (sV r), .int .i64 (uP at_ r), .int .i64 (uE r)] := by cases r <;> rfl

theorem ReadU_is (A : Option Addr) (c bits at_ : Nat) (l : List Int) (w : World) (hA : Byt w w.heap.size A l) (hl : l.length ≤ 1000000) (hby : ∀ x ∈ l, 0 ≤ x ∧ x ≤ 255) (hb1 : 1 ≤ bits) (hb64 : bits ≤ 64) (hat : at_ ≤ l.length) :
    Calls Try.prog 32 #[.slice A l.length c, .int .i64 (at_ : Int), .int .i64 (bits : Int)] w fun e w' => e = .returned (.tuple #[.int .u64 (uV (rdl fitU bits (l.drop at_) 0 0)), .int .i64 (uP at_ (rdl fitU bits (l.drop at_) 0 0)), .int .i64 (uE (rdl fitU bits (l.drop at_) 0 0))]) ∧ Below w.heap.size w w' := by
  rw [← ansU_eq]
  exact ReadU_ok A c bits at_ l w hA hl hby hb1 hb64 hat
theorem i64_and63 (n : Int) : bits .and .i64 n 63 = n % 64 := by
  have h : (BitVec.ofInt 64 63).toNat = 2 ^ 6 - 1 := by decide
  have key : (BitVec.ofInt 64 n &&& BitVec.ofInt 64 63).toNat = (n % ((2 ^ 64 : Nat) : Int)).toNat % 2 ^ 6 := by
    rw [BitVec.toNat_and, BitVec.toNat_ofInt, h, Nat.and_two_pow_sub_one_eq_mod]
  show IntKind.i64.wrap ((BitVec.ofInt 64 n &&& BitVec.ofInt 64 63).toNat : Nat) = n % 64
  rw [key, IntKind.wrap_i64]
  omega
theorem i64_and15 (n : Int) : bits .and .i64 n 15 = n % 16 := by
  have h : (BitVec.ofInt 64 15).toNat = 2 ^ 4 - 1 := by decide
  have key : (BitVec.ofInt 64 n &&& BitVec.ofInt 64 15).toNat = (n % ((2 ^ 64 : Nat) : Int)).toNat % 2 ^ 4 := by
    rw [BitVec.toNat_and, BitVec.toNat_ofInt, h, Nat.and_two_pow_sub_one_eq_mod]
  show IntKind.i64.wrap ((BitVec.ofInt 64 n &&& BitVec.ofInt 64 15).toNat : Nat) = n % 16
  rw [key, IntKind.wrap_i64]
  omega

end Go.Proofs.Ytnminpbnlcgblaa.Leb
