/- The two functions that read a number of any bytes, at any place, of any width: what they answer, wrong arguments included. -/
import Derived.Test.YtnminpbnlcgblaaLebReadS
namespace Go.Proofs.Ytnminpbnlcgblaa.Leb
open Go.RowKit

/-- Arguments that may not be. -/
def badArg (l : List Int) (at_ bits : Int) : Prop := bits < 1 ∨ 64 < bits ∨ at_ < 0 ∨ (l.length : Int) < at_

set_option maxHeartbeats 400000 in
set_option maxRecDepth 100000 in
theorem badU_any (A : Option Addr) (c : Nat) (bits at_ : Int) (l : List Int) (w : World) (_hl : l.length ≤ 1000000) (h : badArg l at_ bits) :
    Calls Try.prog 43 #[.slice A l.length c, .int .i64 at_, .int .i64 bits, .func (.func 44) #[] #[]] w fun e w' => e = .returned (.tuple #[.int .u64 0, .int .i64 0, .int .i64 0, .int .i64 1]) ∧ w = w' := by
  unfold badArg at h
  by_cases h1 : bits < 1
  · clear h
    go_enter Try.func43, Try.ntmps43
    go_wp2
    refine bodyPost_ret (results4 rfl _ _ _) rfl ?_
    exact ⟨rfl, rfl⟩
  · by_cases h2 : 64 < bits
    · clear h
      go_enter Try.func43, Try.ntmps43
      go_wp2
      refine bodyPost_ret (results4 rfl _ _ _) rfl ?_
      exact ⟨rfl, rfl⟩
    · by_cases h3 : at_ < 0
      · clear h
        go_enter Try.func43, Try.ntmps43
        go_wp2
        refine bodyPost_ret (results4 rfl _ _ _) rfl ?_
        exact ⟨rfl, rfl⟩
      · have h4 : (l.length : Int) < at_ := by omega
        clear h
        go_enter Try.func43, Try.ntmps43
        go_wp2
        refine bodyPost_ret (results4 rfl _ _ _) rfl ?_
        exact ⟨rfl, rfl⟩

/-- What ReadU answers. -/
def ansU (at_ : Nat) : RU → Value
  | .short => .tuple #[.int .u64 0, .int .i64 0, .int .i64 2]
  | .form => .tuple #[.int .u64 0, .int .i64 0, .int .i64 3]
  | .ok v m => .tuple #[.int .u64 (v : Int), .int .i64 ((at_ + m / 7 : Nat) : Int), .int .i64 0]
/-- What ReadS answers. -/
def ansS (at_ : Nat) : RU → Value
  | .short => .tuple #[.int .i64 0, .int .i64 0, .int .i64 2]
  | .form => .tuple #[.int .i64 0, .int .i64 0, .int .i64 3]
  | .ok v m => .tuple #[.int .i64 (ext v m), .int .i64 ((at_ + m / 7 : Nat) : Int), .int .i64 0]

theorem ext_zero : ext 0 0 = 0 := by
  unfold ext
  rw [if_neg (by omega)]
  simp [IntKind.wrap_u64, wrap64]

theorem rdl_width {fit : Int → Nat → Bool} {bits : Nat} (hb : bits ≤ 64) : ∀ (l : List Int) (lo acc v m : Nat), lo < bits → lo % 7 = 0 → rdl fit bits l lo acc = .ok v m → m ≤ 70 ∧ m % 7 = 0 ∧ 7 ≤ m
  | [], _, _, _, _, _, _, h => by cases h
  | c :: r, lo, acc, v, m, h1, h7, h => by
    rw [rdl] at h
    split at h
    · cases h
    · split at h
      · injection h with _ h
        omega
      · exact rdl_width hb r (lo + 7) _ v m (by rename_i h2 h3; omega) (by omega) h

theorem below_of {w w' : World} {at_ : Nat} {r : RU} {e : Ending} (h : Told w at_ r e w') : Below w.heap.size w w' := h.2

set_option maxHeartbeats 400000 in
set_option maxRecDepth 100000 in
theorem ReadU_ok (A : Option Addr) (c bits at_ : Nat) (l : List Int) (w : World) (hA : Byt w w.heap.size A l) (hl : l.length ≤ 1000000) (hby : ∀ x ∈ l, 0 ≤ x ∧ x ≤ 255) (hb1 : 1 ≤ bits) (hb64 : bits ≤ 64) (hat : at_ ≤ l.length) :
    Calls Try.prog 32 #[.slice A l.length c, .int .i64 (at_ : Int), .int .i64 (bits : Int)] w fun e w' => e = .returned (ansU at_ (rdl fitU bits (l.drop at_) 0 0)) ∧ Below w.heap.size w w' := by
  have H := Lib.hid (readU_any A c bits at_ l w hA hl hby hb1 hb64 hat)
  clear hA hby hb1 hb64 hat
  generalize hr : rdl fitU bits (l.drop at_) 0 0 = r at H ⊢
  clear hr
  rcases r with _ | _ | ⟨v, m⟩
  · have H2 := Lib.hid (H.out.mono fun e w' h => (show e = .returned (.tuple #[.int .u64 0, .int .i64 0, .int .i64 0, .int .i64 2]) ∧ Below w.heap.size w w' from h))
    clear H
    go_enter Try.func32, Try.ntmps32
    go_wp2_with (go_at_call 43; refine H2.out.mono ?_; rintro e w' ⟨rfl, hb⟩)
    go_ret3
    exact ⟨rfl, hb⟩
  · have H2 := Lib.hid (H.out.mono fun e w' h => (show e = .returned (.tuple #[.int .u64 0, .int .i64 0, .int .i64 0, .int .i64 3]) ∧ Below w.heap.size w w' from h))
    clear H
    go_enter Try.func32, Try.ntmps32
    go_wp2_with (go_at_call 43; refine H2.out.mono ?_; rintro e w' ⟨rfl, hb⟩)
    go_ret3
    exact ⟨rfl, hb⟩
  · have H2 := Lib.hid (H.out.mono fun e w' h => (show e = .returned (.tuple #[.int .u64 (v : Int), .int .i64 (m : Int), .int .i64 ((at_ + m / 7 : Nat) : Int), .int .i64 0]) ∧ Below w.heap.size w w' from h))
    clear H
    go_enter Try.func32, Try.ntmps32
    go_wp2_with (go_at_call 43; refine H2.out.mono ?_; rintro e w' ⟨rfl, hb⟩)
    go_ret3
    exact ⟨rfl, hb⟩

set_option maxHeartbeats 400000 in
set_option maxRecDepth 100000 in
theorem ReadU_bad (A : Option Addr) (c : Nat) (bits at_ : Int) (l : List Int) (w : World) (hl : l.length ≤ 1000000) (h : badArg l at_ bits) :
    Calls Try.prog 32 #[.slice A l.length c, .int .i64 at_, .int .i64 bits] w fun e w' => e = .returned (.tuple #[.int .u64 0, .int .i64 0, .int .i64 1]) ∧ w = w' := by
  have H := Lib.hid (badU_any A c bits at_ l w hl h)
  clear h
  go_enter Try.func32, Try.ntmps32
  go_wp2_with (go_at_call 43; refine H.out.mono ?_; rintro e w' ⟨rfl, rfl⟩)
  go_ret3
  exact ⟨rfl, rfl⟩

end Go.Proofs.Ytnminpbnlcgblaa.Leb
