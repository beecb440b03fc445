/- LebReads walked: what is read of any bytes, from any place, of any width, is what the document says. -/
import Derived.Test.YtnminpbnlcgblaaLebReadsMath
namespace Go.Proofs.Ytnminpbnlcgblaa.Leb
open Go.RowKit

theorem refReadU_is (A : Option Addr) (c bits at_ : Nat) (l : List Int) (w : World) (hA : Byt w w.heap.size A l) (hl : l.length ≤ 1000000) (hby : ∀ x ∈ l, 0 ≤ x ∧ x ≤ 255) (hb1 : 1 ≤ bits) (hb64 : bits ≤ 64) (hat : at_ ≤ l.length) :
    Calls Try.prog 33 #[.slice A l.length c, .int .i64 (at_ : Int), .int .i64 (bits : Int)] w (RTold w (uV (rdl fitU bits (l.drop at_) 0 0)) (uP at_ (rdl fitU bits (l.drop at_) 0 0)) (uE (rdl fitU bits (l.drop at_) 0 0)) .u64) := by
  have hd := digits_ok A c bits at_ l w hA hl hby hb1 hb64 hat
  have hs := same_U hb1 hb64 (l.drop at_) fun x hx => hby x (List.mem_of_mem_drop hx)
  cases hq : dgl ((bits + 6) / 7) (l.drop at_) 1 [] with
  | short =>
    rw [hq] at hd hs
    have hs : rdl fitU bits (l.drop at_) 0 0 = .short := hs
    rw [hs]
    exact refReadU_err A _ c _ _ 2 w (by decide) hd
  | form =>
    rw [hq] at hd hs
    have hs : rdl fitU bits (l.drop at_) 0 0 = .form := hs
    rw [hs]
    exact refReadU_err A _ c _ _ 3 w (by decide) hd
  | ok bl =>
    have hok := refReadU_ok A c bits at_ l bl w hA hl hby hb1 hb64 hat hq
    rw [hq] at hs
    by_cases hh : hiU bits bl
    · rw [hs.1 hh]
      simp only [uV, uP, uE]
      rw [show (((vU bl).toNat : Nat) : Int) = vU bl from by have := vU_bounds bl; omega]
      exact hok.1 hh
    · rw [hs.2 hh]
      exact hok.2 hh

theorem bad_told {w : World} {f : FuncId} {args : Array Value} {k : IntKind} (h : Calls Try.prog f args w fun e w' => e = .returned (.tuple #[.int k 0, .int .i64 0, .int .i64 1]) ∧ w = w') : Calls Try.prog f args w (RTold w 0 0 1 k) :=
  h.mono fun e w' ⟨he, hw⟩ => ⟨he, by subst hw; exact Below.refl _ _⟩

end Go.Proofs.Ytnminpbnlcgblaa.Leb
