/- IntsCount walked: a number's zeros at the top, and at the bottom, and its ones, are no more than its digits; of 0 all are zeros. -/
import Derived.Test.YtoclfldmkipokaaDoorIntsShift
namespace Go.Proofs.YtoclfldmkipokaaDoor.Ints
open Go.RowKit
set_option maxRecDepth 100000
set_option maxHeartbeats 400000

theorem count_32n (a n k one P Q O : Int) (w : World) (hT : Tab w) (n0 : 0 ≤ n) (hk : n % 32 = k) (_k0 : 0 ≤ k) (_k1 : k ≤ 31) (p0 : 0 ≤ P) (q0 : 0 ≤ Q) (o0 : 0 < O) (oe : (O == 0) = false) (hpq : P + Q + O ≤ 32) 
    (h1 : (∀ W, Tab W → Calls Tryd.prog 18 #[.int .i64 116, .int .u64 1, .int .u64 k] W fun e w' => e = .returned (.tuple #[.int .u64 one, .int .i64 0, .bool true]) ∧ Below W.heap.size W w')) (h2 : (∀ W, Tab W → Calls Tryd.prog 16 #[.int .i64 103, .int .u64 one] W fun e w' => e = .returned (.tuple #[.int .u64 (31 - k), .bool true]) ∧ Below W.heap.size W w')) (h3 : (∀ W, Tab W → Calls Tryd.prog 16 #[.int .i64 104, .int .u64 one] W fun e w' => e = .returned (.tuple #[.int .u64 k, .bool true]) ∧ Below W.heap.size W w')) (h4 : (∀ W, Tab W → Calls Tryd.prog 16 #[.int .i64 105, .int .u64 one] W fun e w' => e = .returned (.tuple #[.int .u64 1, .bool true]) ∧ Below W.heap.size W w')) (h5 : (∀ W, Tab W → Calls Tryd.prog 16 #[.int .i64 103, .int .u64 a] W fun e w' => e = .returned (.tuple #[.int .u64 P, .bool true]) ∧ Below W.heap.size W w')) (h6 : (∀ W, Tab W → Calls Tryd.prog 16 #[.int .i64 104, .int .u64 a] W fun e w' => e = .returned (.tuple #[.int .u64 Q, .bool true]) ∧ Below W.heap.size W w')) (h7 : (∀ W, Tab W → Calls Tryd.prog 16 #[.int .i64 105, .int .u64 a] W fun e w' => e = .returned (.tuple #[.int .u64 O, .bool true]) ∧ Below W.heap.size W w')) (h8 : (∀ W, Tab W → Calls Tryd.prog 16 #[.int .i64 103, .int .u64 0] W fun e w' => e = .returned (.tuple #[.int .u64 32, .bool true]) ∧ Below W.heap.size W w')) (h9 : (∀ W, Tab W → Calls Tryd.prog 16 #[.int .i64 104, .int .u64 0] W fun e w' => e = .returned (.tuple #[.int .u64 32, .bool true]) ∧ Below W.heap.size W w')) :
    Calls Tryd.prog 12 #[.int .u64 a, .int .u64 n, .bool false] w fun e w' => e = .returned (.bool true) ∧ Below w.heap.size w w' := by
  have HA := Lib.hid awake_any
  have H1 := Lib.hid h1
  have H2 := Lib.hid h2
  have H3 := Lib.hid h3
  have H4 := Lib.hid h4
  have H5 := Lib.hid h5
  have H6 := Lib.hid h6
  have H7 := Lib.hid h7
  have H8 := Lib.hid h8
  have H9 := Lib.hid h9
  have HT := Lib.hid hT
  clear hT h1 h2 h3 h4 h5 h6 h7 h8 h9
  go_enter Tryd.func12, Tryd.ntmps12
  go_wp2_with fail
  refine (HA.out _ HT.out).mono ?_
  rintro e w1 ⟨rfl, b1⟩
  have HT1 := Lib.hid (HT.out.keep b1)
  go_wp2_with fail
  refine (H1.out _ HT1.out).mono ?_
  rintro e w2 ⟨rfl, b2⟩
  have HT2 := Lib.hid (HT1.out.keep b2)
  go_wp2_with fail
  refine (H2.out _ HT2.out).mono ?_
  rintro e w3 ⟨rfl, b3⟩
  have HT3 := Lib.hid (HT2.out.keep b3)
  go_wp2_with fail
  refine (H3.out _ HT3.out).mono ?_
  rintro e w4 ⟨rfl, b4⟩
  have HT4 := Lib.hid (HT3.out.keep b4)
  go_wp2_with fail
  refine (H4.out _ HT4.out).mono ?_
  rintro e w5 ⟨rfl, b5⟩
  have HT5 := Lib.hid (HT4.out.keep b5)
  go_wp2_with fail
  refine (H5.out _ HT5.out).mono ?_
  rintro e w6 ⟨rfl, b6⟩
  have HT6 := Lib.hid (HT5.out.keep b6)
  go_wp2_with fail
  refine (H6.out _ HT6.out).mono ?_
  rintro e w7 ⟨rfl, b7⟩
  have HT7 := Lib.hid (HT6.out.keep b7)
  go_wp2_with fail
  refine (H7.out _ HT7.out).mono ?_
  rintro e w8 ⟨rfl, b8⟩
  have HT8 := Lib.hid (HT7.out.keep b8)
  go_wp2_with fail
  refine (H8.out _ HT8.out).mono ?_
  rintro e w9 ⟨rfl, b9⟩
  have HT9 := Lib.hid (HT8.out.keep b9)
  go_wp2_with fail
  refine (H9.out _ HT9.out).mono ?_
  rintro e w10 ⟨rfl, b10⟩
  have HT10 := Lib.hid (HT9.out.keep b10)
  go_wp2_with fail
  go_ret
  have c2 := b1.trans (b2.mono b1.size)
  have c3 := c2.trans (b3.mono c2.size)
  have c4 := c3.trans (b4.mono c3.size)
  have c5 := c4.trans (b5.mono c4.size)
  have c6 := c5.trans (b6.mono c5.size)
  have c7 := c6.trans (b7.mono c6.size)
  have c8 := c7.trans (b8.mono c7.size)
  have c9 := c8.trans (b9.mono c8.size)
  have c10 := c9.trans (b10.mono c9.size)
  exact ⟨rfl, c10⟩
theorem beq_ne0 {x : Int} (h : x ≠ 0) : (x == 0) = false := by simpa using h
theorem count_32z (a n k one : Int) (w : World) (hT : Tab w) (n0 : 0 ≤ n) (hk : n % 32 = k) (_k0 : 0 ≤ k) (_k1 : k ≤ 31) 
    (h1 : (∀ W, Tab W → Calls Tryd.prog 18 #[.int .i64 116, .int .u64 1, .int .u64 k] W fun e w' => e = .returned (.tuple #[.int .u64 one, .int .i64 0, .bool true]) ∧ Below W.heap.size W w')) (h2 : (∀ W, Tab W → Calls Tryd.prog 16 #[.int .i64 103, .int .u64 one] W fun e w' => e = .returned (.tuple #[.int .u64 (31 - k), .bool true]) ∧ Below W.heap.size W w')) (h3 : (∀ W, Tab W → Calls Tryd.prog 16 #[.int .i64 104, .int .u64 one] W fun e w' => e = .returned (.tuple #[.int .u64 k, .bool true]) ∧ Below W.heap.size W w')) (h4 : (∀ W, Tab W → Calls Tryd.prog 16 #[.int .i64 105, .int .u64 one] W fun e w' => e = .returned (.tuple #[.int .u64 1, .bool true]) ∧ Below W.heap.size W w')) (h5 : (∀ W, Tab W → Calls Tryd.prog 16 #[.int .i64 103, .int .u64 a] W fun e w' => e = .returned (.tuple #[.int .u64 32, .bool true]) ∧ Below W.heap.size W w')) (h6 : (∀ W, Tab W → Calls Tryd.prog 16 #[.int .i64 104, .int .u64 a] W fun e w' => e = .returned (.tuple #[.int .u64 32, .bool true]) ∧ Below W.heap.size W w')) (h7 : (∀ W, Tab W → Calls Tryd.prog 16 #[.int .i64 105, .int .u64 a] W fun e w' => e = .returned (.tuple #[.int .u64 0, .bool true]) ∧ Below W.heap.size W w')) (h8 : (∀ W, Tab W → Calls Tryd.prog 16 #[.int .i64 103, .int .u64 0] W fun e w' => e = .returned (.tuple #[.int .u64 32, .bool true]) ∧ Below W.heap.size W w')) (h9 : (∀ W, Tab W → Calls Tryd.prog 16 #[.int .i64 104, .int .u64 0] W fun e w' => e = .returned (.tuple #[.int .u64 32, .bool true]) ∧ Below W.heap.size W w')) :
    Calls Tryd.prog 12 #[.int .u64 a, .int .u64 n, .bool false] w fun e w' => e = .returned (.bool true) ∧ Below w.heap.size w w' := by
  have HA := Lib.hid awake_any
  have H1 := Lib.hid h1
  have H2 := Lib.hid h2
  have H3 := Lib.hid h3
  have H4 := Lib.hid h4
  have H5 := Lib.hid h5
  have H6 := Lib.hid h6
  have H7 := Lib.hid h7
  have H8 := Lib.hid h8
  have H9 := Lib.hid h9
  have HT := Lib.hid hT
  clear hT h1 h2 h3 h4 h5 h6 h7 h8 h9
  go_enter Tryd.func12, Tryd.ntmps12
  go_wp2_with fail
  refine (HA.out _ HT.out).mono ?_
  rintro e w1 ⟨rfl, b1⟩
  have HT1 := Lib.hid (HT.out.keep b1)
  go_wp2_with fail
  refine (H1.out _ HT1.out).mono ?_
  rintro e w2 ⟨rfl, b2⟩
  have HT2 := Lib.hid (HT1.out.keep b2)
  go_wp2_with fail
  refine (H2.out _ HT2.out).mono ?_
  rintro e w3 ⟨rfl, b3⟩
  have HT3 := Lib.hid (HT2.out.keep b3)
  go_wp2_with fail
  refine (H3.out _ HT3.out).mono ?_
  rintro e w4 ⟨rfl, b4⟩
  have HT4 := Lib.hid (HT3.out.keep b4)
  go_wp2_with fail
  refine (H4.out _ HT4.out).mono ?_
  rintro e w5 ⟨rfl, b5⟩
  have HT5 := Lib.hid (HT4.out.keep b5)
  go_wp2_with fail
  refine (H5.out _ HT5.out).mono ?_
  rintro e w6 ⟨rfl, b6⟩
  have HT6 := Lib.hid (HT5.out.keep b6)
  go_wp2_with fail
  refine (H6.out _ HT6.out).mono ?_
  rintro e w7 ⟨rfl, b7⟩
  have HT7 := Lib.hid (HT6.out.keep b7)
  go_wp2_with fail
  refine (H7.out _ HT7.out).mono ?_
  rintro e w8 ⟨rfl, b8⟩
  have HT8 := Lib.hid (HT7.out.keep b8)
  go_wp2_with fail
  refine (H8.out _ HT8.out).mono ?_
  rintro e w9 ⟨rfl, b9⟩
  have HT9 := Lib.hid (HT8.out.keep b9)
  go_wp2_with fail
  refine (H9.out _ HT9.out).mono ?_
  rintro e w10 ⟨rfl, b10⟩
  have HT10 := Lib.hid (HT9.out.keep b10)
  go_wp2_with fail
  go_ret
  have c2 := b1.trans (b2.mono b1.size)
  have c3 := c2.trans (b3.mono c2.size)
  have c4 := c3.trans (b4.mono c3.size)
  have c5 := c4.trans (b5.mono c4.size)
  have c6 := c5.trans (b6.mono c5.size)
  have c7 := c6.trans (b7.mono c6.size)
  have c8 := c7.trans (b8.mono c7.size)
  have c9 := c8.trans (b9.mono c8.size)
  have c10 := c9.trans (b10.mono c9.size)
  exact ⟨rfl, c10⟩
theorem count_32 (a n : Int) (w : World) (hT : Tab w) (ha : u64R a) (hn : u64R n) :
    Calls Tryd.prog 12 #[.int .u64 a, .int .u64 n, .bool false] w fun e w' => e = .returned (.bool true) ∧ Below w.heap.size w w' := by
  have ht := (show isT 127 from .inl rfl)
  have n0 := hn.1
  have k0 : 0 ≤ n % 32 := by omega
  have k1 : n % 32 ≤ 31 := by omega
  have hk64 : u64R (n % 32) := ⟨k0, by omega⟩
  have hkk : kN 127 (n % 32) = (n % 32).toNat := by show (n % 32 % 32).toNat = _; omega
  have hall := pow2_all ⟨(n % 32).toNat, by omega⟩
  simp only at hall
  have hpl : 2 ^ (n % 32).toNat < 2 ^ wN 127 := Nat.pow_lt_pow_right (by omega) (by show _ < 32; omega)
  have hO := pow_in ht hpl
  have Oid := loT_id ht hO
  have z64 : u64R 0 := ⟨by omega, by omega⟩
  have H1 := at_any (op := 116) (l := 116) (by decide) (by decide) (by decide) (by omega) (⟨by omega, by omega⟩ : u64R 1) hk64 (show vaL 127 116 (loT 127 1) (loT 127 (n % 32)) = ((2 ^ (n % 32).toNat : Nat) : Int) by
    rw [show loT 127 1 = 1 from by decide, va116 ht (one_in _), kN_lo ht, hkk, show Int.toNat 1 = 1 from rfl, Nat.one_mul, Nat.mod_eq_of_lt hpl])
  have H2 := on_any (op := 103) (l := 103) (by decide) (by decide) (by decide) (by omega) (inR_u hO) (show vaL 127 103 (loT 127 ((2 ^ (n % 32).toNat : Nat) : Int)) (loT 127 0) = 31 - n % 32 by
    rw [Oid, (va103 ht hO).1, Int.toNat_natCast, hall.2.1]; show 32 - (((n % 32).toNat + 1 : Nat) : Int) = _; omega)
  have H3 := on_any (op := 104) (l := 104) (by decide) (by decide) (by decide) (by omega) (inR_u hO) (show vaL 127 104 (loT 127 ((2 ^ (n % 32).toNat : Nat) : Int)) (loT 127 0) = n % 32 by
    rw [Oid, va104 ht, Int.toNat_natCast, hall.1, if_neg (by show ¬ 32 ≤ _; omega)]; omega)
  have H4 := on_any (op := 105) (l := 105) (by decide) (by decide) (by decide) (by omega) (inR_u hO) (show vaL 127 105 (loT 127 ((2 ^ (n % 32).toNat : Nat) : Int)) (loT 127 0) = 1 by
    rw [Oid, va105 ht, Int.toNat_natCast, hall.2.2]; rfl)
  have H8 := on_any (op := 103) (l := 103) (by decide) (by decide) (by decide) (by omega) z64 (show vaL 127 103 (loT 127 0) (loT 127 0) = 32 by decide +kernel)
  have H9 := on_any (op := 104) (l := 104) (by decide) (by decide) (by decide) (by omega) z64 (show vaL 127 104 (loT 127 0) (loT 127 0) = 32 by decide +kernel)
  have hx := loT_in ht ha
  by_cases h0 : loT 127 a = 0
  · have H5 := on_any (op := 103) (l := 103) (by decide) (by decide) (by decide) (by omega) ha (show vaL 127 103 (loT 127 a) (loT 127 0) = 32 by rw [h0]; decide +kernel)
    have H6 := on_any (op := 104) (l := 104) (by decide) (by decide) (by decide) (by omega) ha (show vaL 127 104 (loT 127 a) (loT 127 0) = 32 by rw [h0]; decide +kernel)
    have H7 := on_any (op := 105) (l := 105) (by decide) (by decide) (by decide) (by omega) ha (show vaL 127 105 (loT 127 a) (loT 127 0) = 0 by rw [h0]; decide +kernel)
    exact count_32z a n _ _ w hT n0 rfl k0 k1 H1 H2 H3 H4 H5 H6 H7 H8 H9
  · have hcl := count_le (loT 127 a).toNat (toNat_lt hx) (by have := hx.1; omega)
    have hbl := (va103 (y := loT 127 0) ht hx).2
    have hbl : (Lib.bitLen (loT 127 a).toNat : Int) ≤ 32 := hbl
    have H5 := on_any (op := 103) (l := 103) (by decide) (by decide) (by decide) (by omega) ha (show vaL 127 103 (loT 127 a) (loT 127 0) = 32 - (Lib.bitLen (loT 127 a).toNat : Int) from (va103 ht hx).1)
    have H6 := on_any (op := 104) (l := 104) (by decide) (by decide) (by decide) (by omega) ha (show vaL 127 104 (loT 127 a) (loT 127 0) = (Lib.ctz 64 (loT 127 a).toNat : Int) by
      rw [va104 ht, if_neg (by show ¬ 32 ≤ _; omega)])
    have H7 := on_any (op := 105) (l := 105) (by decide) (by decide) (by decide) (by omega) ha (show vaL 127 105 (loT 127 a) (loT 127 0) = (popR (loT 127 a).toNat 64 : Int) from va105 ht)
    exact count_32n a n _ _ _ _ _ w hT n0 rfl k0 k1 (by omega) (by omega) (by omega) (beq_ne0 (by omega)) (by omega) H1 H2 H3 H4 H5 H6 H7 H8 H9
theorem count_64n (a n k one P Q O : Int) (w : World) (hT : Tab w) (n0 : 0 ≤ n) (hk : n % 64 = k) (_k0 : 0 ≤ k) (_k1 : k ≤ 63) (p0 : 0 ≤ P) (q0 : 0 ≤ Q) (o0 : 0 < O) (oe : (O == 0) = false) (hpq : P + Q + O ≤ 64) 
    (h1 : (∀ W, Tab W → Calls Tryd.prog 18 #[.int .i64 134, .int .u64 1, .int .u64 k] W fun e w' => e = .returned (.tuple #[.int .u64 one, .int .i64 0, .bool true]) ∧ Below W.heap.size W w')) (h2 : (∀ W, Tab W → Calls Tryd.prog 16 #[.int .i64 121, .int .u64 one] W fun e w' => e = .returned (.tuple #[.int .u64 (63 - k), .bool true]) ∧ Below W.heap.size W w')) (h3 : (∀ W, Tab W → Calls Tryd.prog 16 #[.int .i64 122, .int .u64 one] W fun e w' => e = .returned (.tuple #[.int .u64 k, .bool true]) ∧ Below W.heap.size W w')) (h4 : (∀ W, Tab W → Calls Tryd.prog 16 #[.int .i64 123, .int .u64 one] W fun e w' => e = .returned (.tuple #[.int .u64 1, .bool true]) ∧ Below W.heap.size W w')) (h5 : (∀ W, Tab W → Calls Tryd.prog 16 #[.int .i64 121, .int .u64 a] W fun e w' => e = .returned (.tuple #[.int .u64 P, .bool true]) ∧ Below W.heap.size W w')) (h6 : (∀ W, Tab W → Calls Tryd.prog 16 #[.int .i64 122, .int .u64 a] W fun e w' => e = .returned (.tuple #[.int .u64 Q, .bool true]) ∧ Below W.heap.size W w')) (h7 : (∀ W, Tab W → Calls Tryd.prog 16 #[.int .i64 123, .int .u64 a] W fun e w' => e = .returned (.tuple #[.int .u64 O, .bool true]) ∧ Below W.heap.size W w')) (h8 : (∀ W, Tab W → Calls Tryd.prog 16 #[.int .i64 121, .int .u64 0] W fun e w' => e = .returned (.tuple #[.int .u64 64, .bool true]) ∧ Below W.heap.size W w')) (h9 : (∀ W, Tab W → Calls Tryd.prog 16 #[.int .i64 122, .int .u64 0] W fun e w' => e = .returned (.tuple #[.int .u64 64, .bool true]) ∧ Below W.heap.size W w')) :
    Calls Tryd.prog 12 #[.int .u64 a, .int .u64 n, .bool true] w fun e w' => e = .returned (.bool true) ∧ Below w.heap.size w w' := by
  have HA := Lib.hid awake_any
  have H1 := Lib.hid h1
  have H2 := Lib.hid h2
  have H3 := Lib.hid h3
  have H4 := Lib.hid h4
  have H5 := Lib.hid h5
  have H6 := Lib.hid h6
  have H7 := Lib.hid h7
  have H8 := Lib.hid h8
  have H9 := Lib.hid h9
  have HT := Lib.hid hT
  clear hT h1 h2 h3 h4 h5 h6 h7 h8 h9
  go_enter Tryd.func12, Tryd.ntmps12
  go_wp2_with fail
  refine (HA.out _ HT.out).mono ?_
  rintro e w1 ⟨rfl, b1⟩
  have HT1 := Lib.hid (HT.out.keep b1)
  go_wp2_with fail
  refine (H1.out _ HT1.out).mono ?_
  rintro e w2 ⟨rfl, b2⟩
  have HT2 := Lib.hid (HT1.out.keep b2)
  go_wp2_with fail
  refine (H2.out _ HT2.out).mono ?_
  rintro e w3 ⟨rfl, b3⟩
  have HT3 := Lib.hid (HT2.out.keep b3)
  go_wp2_with fail
  refine (H3.out _ HT3.out).mono ?_
  rintro e w4 ⟨rfl, b4⟩
  have HT4 := Lib.hid (HT3.out.keep b4)
  go_wp2_with fail
  refine (H4.out _ HT4.out).mono ?_
  rintro e w5 ⟨rfl, b5⟩
  have HT5 := Lib.hid (HT4.out.keep b5)
  go_wp2_with fail
  refine (H5.out _ HT5.out).mono ?_
  rintro e w6 ⟨rfl, b6⟩
  have HT6 := Lib.hid (HT5.out.keep b6)
  go_wp2_with fail
  refine (H6.out _ HT6.out).mono ?_
  rintro e w7 ⟨rfl, b7⟩
  have HT7 := Lib.hid (HT6.out.keep b7)
  go_wp2_with fail
  refine (H7.out _ HT7.out).mono ?_
  rintro e w8 ⟨rfl, b8⟩
  have HT8 := Lib.hid (HT7.out.keep b8)
  go_wp2_with fail
  refine (H8.out _ HT8.out).mono ?_
  rintro e w9 ⟨rfl, b9⟩
  have HT9 := Lib.hid (HT8.out.keep b9)
  go_wp2_with fail
  refine (H9.out _ HT9.out).mono ?_
  rintro e w10 ⟨rfl, b10⟩
  have HT10 := Lib.hid (HT9.out.keep b10)
  go_wp2_with fail
  go_ret
  have c2 := b1.trans (b2.mono b1.size)
  have c3 := c2.trans (b3.mono c2.size)
  have c4 := c3.trans (b4.mono c3.size)
  have c5 := c4.trans (b5.mono c4.size)
  have c6 := c5.trans (b6.mono c5.size)
  have c7 := c6.trans (b7.mono c6.size)
  have c8 := c7.trans (b8.mono c7.size)
  have c9 := c8.trans (b9.mono c8.size)
  have c10 := c9.trans (b10.mono c9.size)
  exact ⟨rfl, c10⟩
theorem count_64z (a n k one : Int) (w : World) (hT : Tab w) (n0 : 0 ≤ n) (hk : n % 64 = k) (_k0 : 0 ≤ k) (_k1 : k ≤ 63) 
    (h1 : (∀ W, Tab W → Calls Tryd.prog 18 #[.int .i64 134, .int .u64 1, .int .u64 k] W fun e w' => e = .returned (.tuple #[.int .u64 one, .int .i64 0, .bool true]) ∧ Below W.heap.size W w')) (h2 : (∀ W, Tab W → Calls Tryd.prog 16 #[.int .i64 121, .int .u64 one] W fun e w' => e = .returned (.tuple #[.int .u64 (63 - k), .bool true]) ∧ Below W.heap.size W w')) (h3 : (∀ W, Tab W → Calls Tryd.prog 16 #[.int .i64 122, .int .u64 one] W fun e w' => e = .returned (.tuple #[.int .u64 k, .bool true]) ∧ Below W.heap.size W w')) (h4 : (∀ W, Tab W → Calls Tryd.prog 16 #[.int .i64 123, .int .u64 one] W fun e w' => e = .returned (.tuple #[.int .u64 1, .bool true]) ∧ Below W.heap.size W w')) (h5 : (∀ W, Tab W → Calls Tryd.prog 16 #[.int .i64 121, .int .u64 a] W fun e w' => e = .returned (.tuple #[.int .u64 64, .bool true]) ∧ Below W.heap.size W w')) (h6 : (∀ W, Tab W → Calls Tryd.prog 16 #[.int .i64 122, .int .u64 a] W fun e w' => e = .returned (.tuple #[.int .u64 64, .bool true]) ∧ Below W.heap.size W w')) (h7 : (∀ W, Tab W → Calls Tryd.prog 16 #[.int .i64 123, .int .u64 a] W fun e w' => e = .returned (.tuple #[.int .u64 0, .bool true]) ∧ Below W.heap.size W w')) (h8 : (∀ W, Tab W → Calls Tryd.prog 16 #[.int .i64 121, .int .u64 0] W fun e w' => e = .returned (.tuple #[.int .u64 64, .bool true]) ∧ Below W.heap.size W w')) (h9 : (∀ W, Tab W → Calls Tryd.prog 16 #[.int .i64 122, .int .u64 0] W fun e w' => e = .returned (.tuple #[.int .u64 64, .bool true]) ∧ Below W.heap.size W w')) :
    Calls Tryd.prog 12 #[.int .u64 a, .int .u64 n, .bool true] w fun e w' => e = .returned (.bool true) ∧ Below w.heap.size w w' := by
  have HA := Lib.hid awake_any
  have H1 := Lib.hid h1
  have H2 := Lib.hid h2
  have H3 := Lib.hid h3
  have H4 := Lib.hid h4
  have H5 := Lib.hid h5
  have H6 := Lib.hid h6
  have H7 := Lib.hid h7
  have H8 := Lib.hid h8
  have H9 := Lib.hid h9
  have HT := Lib.hid hT
  clear hT h1 h2 h3 h4 h5 h6 h7 h8 h9
  go_enter Tryd.func12, Tryd.ntmps12
  go_wp2_with fail
  refine (HA.out _ HT.out).mono ?_
  rintro e w1 ⟨rfl, b1⟩
  have HT1 := Lib.hid (HT.out.keep b1)
  go_wp2_with fail
  refine (H1.out _ HT1.out).mono ?_
  rintro e w2 ⟨rfl, b2⟩
  have HT2 := Lib.hid (HT1.out.keep b2)
  go_wp2_with fail
  refine (H2.out _ HT2.out).mono ?_
  rintro e w3 ⟨rfl, b3⟩
  have HT3 := Lib.hid (HT2.out.keep b3)
  go_wp2_with fail
  refine (H3.out _ HT3.out).mono ?_
  rintro e w4 ⟨rfl, b4⟩
  have HT4 := Lib.hid (HT3.out.keep b4)
  go_wp2_with fail
  refine (H4.out _ HT4.out).mono ?_
  rintro e w5 ⟨rfl, b5⟩
  have HT5 := Lib.hid (HT4.out.keep b5)
  go_wp2_with fail
  refine (H5.out _ HT5.out).mono ?_
  rintro e w6 ⟨rfl, b6⟩
  have HT6 := Lib.hid (HT5.out.keep b6)
  go_wp2_with fail
  refine (H6.out _ HT6.out).mono ?_
  rintro e w7 ⟨rfl, b7⟩
  have HT7 := Lib.hid (HT6.out.keep b7)
  go_wp2_with fail
  refine (H7.out _ HT7.out).mono ?_
  rintro e w8 ⟨rfl, b8⟩
  have HT8 := Lib.hid (HT7.out.keep b8)
  go_wp2_with fail
  refine (H8.out _ HT8.out).mono ?_
  rintro e w9 ⟨rfl, b9⟩
  have HT9 := Lib.hid (HT8.out.keep b9)
  go_wp2_with fail
  refine (H9.out _ HT9.out).mono ?_
  rintro e w10 ⟨rfl, b10⟩
  have HT10 := Lib.hid (HT9.out.keep b10)
  go_wp2_with fail
  go_ret
  have c2 := b1.trans (b2.mono b1.size)
  have c3 := c2.trans (b3.mono c2.size)
  have c4 := c3.trans (b4.mono c3.size)
  have c5 := c4.trans (b5.mono c4.size)
  have c6 := c5.trans (b6.mono c5.size)
  have c7 := c6.trans (b7.mono c6.size)
  have c8 := c7.trans (b8.mono c7.size)
  have c9 := c8.trans (b9.mono c8.size)
  have c10 := c9.trans (b10.mono c9.size)
  exact ⟨rfl, c10⟩
theorem count_64 (a n : Int) (w : World) (hT : Tab w) (ha : u64R a) (hn : u64R n) :
    Calls Tryd.prog 12 #[.int .u64 a, .int .u64 n, .bool true] w fun e w' => e = .returned (.bool true) ∧ Below w.heap.size w w' := by
  have ht := (show isT 126 from .inr rfl)
  have n0 := hn.1
  have k0 : 0 ≤ n % 64 := by omega
  have k1 : n % 64 ≤ 63 := by omega
  have hk64 : u64R (n % 64) := ⟨k0, by omega⟩
  have hkk : kN 126 (n % 64) = (n % 64).toNat := by show (n % 64 % 64).toNat = _; omega
  have hall := pow2_all ⟨(n % 64).toNat, by omega⟩
  simp only at hall
  have hpl : 2 ^ (n % 64).toNat < 2 ^ wN 126 := Nat.pow_lt_pow_right (by omega) (by show _ < 64; omega)
  have hO := pow_in ht hpl
  have Oid := loT_id ht hO
  have z64 : u64R 0 := ⟨by omega, by omega⟩
  have H1 := at_any (op := 134) (l := 116) (by decide) (by decide) (by decide) (by omega) (⟨by omega, by omega⟩ : u64R 1) hk64 (show vaL 126 116 (loT 126 1) (loT 126 (n % 64)) = ((2 ^ (n % 64).toNat : Nat) : Int) by
    rw [show loT 126 1 = 1 from by decide, va116 ht (one_in _), kN_lo ht, hkk, show Int.toNat 1 = 1 from rfl, Nat.one_mul, Nat.mod_eq_of_lt hpl])
  have H2 := on_any (op := 121) (l := 103) (by decide) (by decide) (by decide) (by omega) (inR_u hO) (show vaL 126 103 (loT 126 ((2 ^ (n % 64).toNat : Nat) : Int)) (loT 126 0) = 63 - n % 64 by
    rw [Oid, (va103 ht hO).1, Int.toNat_natCast, hall.2.1]; show 64 - (((n % 64).toNat + 1 : Nat) : Int) = _; omega)
  have H3 := on_any (op := 122) (l := 104) (by decide) (by decide) (by decide) (by omega) (inR_u hO) (show vaL 126 104 (loT 126 ((2 ^ (n % 64).toNat : Nat) : Int)) (loT 126 0) = n % 64 by
    rw [Oid, va104 ht, Int.toNat_natCast, hall.1, if_neg (by show ¬ 64 ≤ _; omega)]; omega)
  have H4 := on_any (op := 123) (l := 105) (by decide) (by decide) (by decide) (by omega) (inR_u hO) (show vaL 126 105 (loT 126 ((2 ^ (n % 64).toNat : Nat) : Int)) (loT 126 0) = 1 by
    rw [Oid, va105 ht, Int.toNat_natCast, hall.2.2]; rfl)
  have H8 := on_any (op := 121) (l := 103) (by decide) (by decide) (by decide) (by omega) z64 (show vaL 126 103 (loT 126 0) (loT 126 0) = 64 by decide +kernel)
  have H9 := on_any (op := 122) (l := 104) (by decide) (by decide) (by decide) (by omega) z64 (show vaL 126 104 (loT 126 0) (loT 126 0) = 64 by decide +kernel)
  have hx := loT_in ht ha
  by_cases h0 : loT 126 a = 0
  · have H5 := on_any (op := 121) (l := 103) (by decide) (by decide) (by decide) (by omega) ha (show vaL 126 103 (loT 126 a) (loT 126 0) = 64 by rw [h0]; decide +kernel)
    have H6 := on_any (op := 122) (l := 104) (by decide) (by decide) (by decide) (by omega) ha (show vaL 126 104 (loT 126 a) (loT 126 0) = 64 by rw [h0]; decide +kernel)
    have H7 := on_any (op := 123) (l := 105) (by decide) (by decide) (by decide) (by omega) ha (show vaL 126 105 (loT 126 a) (loT 126 0) = 0 by rw [h0]; decide +kernel)
    exact count_64z a n _ _ w hT n0 rfl k0 k1 H1 H2 H3 H4 H5 H6 H7 H8 H9
  · have hcl := count_le (loT 126 a).toNat (toNat_lt hx) (by have := hx.1; omega)
    have hbl := (va103 (y := loT 126 0) ht hx).2
    have hbl : (Lib.bitLen (loT 126 a).toNat : Int) ≤ 64 := hbl
    have H5 := on_any (op := 121) (l := 103) (by decide) (by decide) (by decide) (by omega) ha (show vaL 126 103 (loT 126 a) (loT 126 0) = 64 - (Lib.bitLen (loT 126 a).toNat : Int) from (va103 ht hx).1)
    have H6 := on_any (op := 122) (l := 104) (by decide) (by decide) (by decide) (by omega) ha (show vaL 126 104 (loT 126 a) (loT 126 0) = (Lib.ctz 64 (loT 126 a).toNat : Int) by
      rw [va104 ht, if_neg (by show ¬ 64 ≤ _; omega)])
    have H7 := on_any (op := 123) (l := 105) (by decide) (by decide) (by decide) (by omega) ha (show vaL 126 105 (loT 126 a) (loT 126 0) = (popR (loT 126 a).toNat 64 : Int) from va105 ht)
    exact count_64n a n _ _ _ _ _ w hT n0 rfl k0 k1 (by omega) (by omega) (by omega) (beq_ne0 (by omega)) (by omega) H1 H2 H3 H4 H5 H6 H7 H8 H9
theorem count_any (a n : Int) (wide : Bool) (wa : (Lit.int .u64 a).wf = true) (wn : (Lit.int .u64 n).wf = true) (w : World) (hT : Tab w) :
    Calls Tryd.prog 12 #[.int .u64 a, .int .u64 n, .bool wide] w fun e w' => e = .returned (.bool true) ∧ Below w.heap.size w w' := by
  have ha := u64_of wa
  have hn := u64_of wn
  cases wide
  · exact count_32 a n w hT ha hn
  · exact count_64 a n w hT ha hn
end Go.Proofs.YtoclfldmkipokaaDoor.Ints
