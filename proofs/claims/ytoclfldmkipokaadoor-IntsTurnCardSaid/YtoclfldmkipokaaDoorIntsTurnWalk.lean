/- IntsTurn walked: turned left and right again, by whatever, a number is itself; as many ones stay; shifted it is what all digits but those pushed out say. -/
import Derived.Test.YtoclfldmkipokaaDoorIntsShift
namespace Go.Proofs.YtoclfldmkipokaaDoor.Ints
open Go.RowKit
set_option maxRecDepth 100000
set_option maxHeartbeats 400000

theorem turn_32n (a n x k L c S R : Int) (w : World) (hT : Tab w) (n0 : 0 ≤ n) (hax : a % 4294967296 = x) (a0 : 0 ≤ a) (hk : n % 32 = k) (_k0 : 0 ≤ k) (_k1 : k ≤ 31) (hz : (k == 0) = false)
    (h1 : (∀ W, Tab W → Calls Tryd.prog 18 #[.int .i64 119, .int .u64 x, .int .u64 n] W fun e w' => e = .returned (.tuple #[.int .u64 L, .int .i64 0, .bool true]) ∧ Below W.heap.size W w')) (h2 : (∀ W, Tab W → Calls Tryd.prog 18 #[.int .i64 120, .int .u64 L, .int .u64 n] W fun e w' => e = .returned (.tuple #[.int .u64 x, .int .i64 0, .bool true]) ∧ Below W.heap.size W w')) (h3 : (∀ W, Tab W → Calls Tryd.prog 16 #[.int .i64 105, .int .u64 x] W fun e w' => e = .returned (.tuple #[.int .u64 c, .bool true]) ∧ Below W.heap.size W w')) (h4 : (∀ W, Tab W → Calls Tryd.prog 16 #[.int .i64 105, .int .u64 L] W fun e w' => e = .returned (.tuple #[.int .u64 c, .bool true]) ∧ Below W.heap.size W w')) (h5 : (∀ W, Tab W → Calls Tryd.prog 18 #[.int .i64 116, .int .u64 x, .int .u64 n] W fun e w' => e = .returned (.tuple #[.int .u64 S, .int .i64 0, .bool true]) ∧ Below W.heap.size W w')) (h6 : (∀ W, Tab W → Calls Tryd.prog 18 #[.int .i64 118, .int .u64 x, .int .u64 (32 - k)] W fun e w' => e = .returned (.tuple #[.int .u64 R, .int .i64 0, .bool true]) ∧ Below W.heap.size W w')) (h7 : (∀ W, Tab W → Calls Tryd.prog 18 #[.int .i64 114, .int .u64 S, .int .u64 R] W fun e w' => e = .returned (.tuple #[.int .u64 L, .int .i64 0, .bool true]) ∧ Below W.heap.size W w')) :
    Calls Tryd.prog 8 #[.int .u64 a, .int .u64 n, .bool false] w fun e w' => e = .returned (.bool true) ∧ Below w.heap.size w w' := by
  have HA := Lib.hid awake_any
  have H1 := Lib.hid h1
  have H2 := Lib.hid h2
  have H3 := Lib.hid h3
  have H4 := Lib.hid h4
  have H5 := Lib.hid h5
  have H6 := Lib.hid h6
  have H7 := Lib.hid h7
  have HT := Lib.hid hT
  clear hT h1 h2 h3 h4 h5 h6 h7
  go_enter Tryd.func8, Tryd.ntmps8
  go_wp2_with fail
  refine (HA.out _ HT.out).mono ?_
  rintro e w1 ⟨rfl, b1⟩
  have HT1 := Lib.hid (HT.out.keep b1)
  go_wp2_with fail
  refine (H1.out _ HT1.out).mono ?_
  rintro e w2 ⟨rfl, b2⟩
  have HT2 := Lib.hid (HT1.out.keep b2)
  go_wp2_with fail
  refine (H2.out _ HT2.out).mono ?_
  rintro e w3 ⟨rfl, b3⟩
  have HT3 := Lib.hid (HT2.out.keep b3)
  go_wp2_with fail
  refine (H3.out _ HT3.out).mono ?_
  rintro e w4 ⟨rfl, b4⟩
  have HT4 := Lib.hid (HT3.out.keep b4)
  go_wp2_with fail
  refine (H4.out _ HT4.out).mono ?_
  rintro e w5 ⟨rfl, b5⟩
  have HT5 := Lib.hid (HT4.out.keep b5)
  go_wp2_with fail
  refine (H5.out _ HT5.out).mono ?_
  rintro e w6 ⟨rfl, b6⟩
  have HT6 := Lib.hid (HT5.out.keep b6)
  go_wp2_with fail
  refine (H6.out _ HT6.out).mono ?_
  rintro e w7 ⟨rfl, b7⟩
  have HT7 := Lib.hid (HT6.out.keep b7)
  go_wp2_with fail
  refine (H7.out _ HT7.out).mono ?_
  rintro e w8 ⟨rfl, b8⟩
  have HT8 := Lib.hid (HT7.out.keep b8)
  go_wp2_with fail
  go_ret
  have c2 := b1.trans (b2.mono b1.size)
  have c3 := c2.trans (b3.mono c2.size)
  have c4 := c3.trans (b4.mono c3.size)
  have c5 := c4.trans (b5.mono c4.size)
  have c6 := c5.trans (b6.mono c5.size)
  have c7 := c6.trans (b7.mono c6.size)
  have c8 := c7.trans (b8.mono c7.size)
  exact ⟨rfl, c8⟩
theorem turn_32z (a n x k L c S R O : Int) (w : World) (hT : Tab w) (n0 : 0 ≤ n) (hax : a % 4294967296 = x) (a0 : 0 ≤ a) (hk : n % 32 = k) (_k0 : 0 ≤ k) (_k1 : k ≤ 31) (hz : (k == 0) = true)
    (h1 : (∀ W, Tab W → Calls Tryd.prog 18 #[.int .i64 119, .int .u64 x, .int .u64 n] W fun e w' => e = .returned (.tuple #[.int .u64 L, .int .i64 0, .bool true]) ∧ Below W.heap.size W w')) (h2 : (∀ W, Tab W → Calls Tryd.prog 18 #[.int .i64 120, .int .u64 L, .int .u64 n] W fun e w' => e = .returned (.tuple #[.int .u64 x, .int .i64 0, .bool true]) ∧ Below W.heap.size W w')) (h3 : (∀ W, Tab W → Calls Tryd.prog 16 #[.int .i64 105, .int .u64 x] W fun e w' => e = .returned (.tuple #[.int .u64 c, .bool true]) ∧ Below W.heap.size W w')) (h4 : (∀ W, Tab W → Calls Tryd.prog 16 #[.int .i64 105, .int .u64 L] W fun e w' => e = .returned (.tuple #[.int .u64 c, .bool true]) ∧ Below W.heap.size W w')) (h5 : (∀ W, Tab W → Calls Tryd.prog 18 #[.int .i64 116, .int .u64 x, .int .u64 n] W fun e w' => e = .returned (.tuple #[.int .u64 S, .int .i64 0, .bool true]) ∧ Below W.heap.size W w')) (h6 : (∀ W, Tab W → Calls Tryd.prog 18 #[.int .i64 118, .int .u64 x, .int .u64 (32 - k)] W fun e w' => e = .returned (.tuple #[.int .u64 R, .int .i64 0, .bool true]) ∧ Below W.heap.size W w')) (h7 : (∀ W, Tab W → Calls Tryd.prog 18 #[.int .i64 114, .int .u64 S, .int .u64 R] W fun e w' => e = .returned (.tuple #[.int .u64 O, .int .i64 0, .bool true]) ∧ Below W.heap.size W w')) :
    Calls Tryd.prog 8 #[.int .u64 a, .int .u64 n, .bool false] w fun e w' => e = .returned (.bool true) ∧ Below w.heap.size w w' := by
  have HA := Lib.hid awake_any
  have H1 := Lib.hid h1
  have H2 := Lib.hid h2
  have H3 := Lib.hid h3
  have H4 := Lib.hid h4
  have H5 := Lib.hid h5
  have H6 := Lib.hid h6
  have H7 := Lib.hid h7
  have HT := Lib.hid hT
  clear hT h1 h2 h3 h4 h5 h6 h7
  go_enter Tryd.func8, Tryd.ntmps8
  go_wp2_with fail
  refine (HA.out _ HT.out).mono ?_
  rintro e w1 ⟨rfl, b1⟩
  have HT1 := Lib.hid (HT.out.keep b1)
  go_wp2_with fail
  refine (H1.out _ HT1.out).mono ?_
  rintro e w2 ⟨rfl, b2⟩
  have HT2 := Lib.hid (HT1.out.keep b2)
  go_wp2_with fail
  refine (H2.out _ HT2.out).mono ?_
  rintro e w3 ⟨rfl, b3⟩
  have HT3 := Lib.hid (HT2.out.keep b3)
  go_wp2_with fail
  refine (H3.out _ HT3.out).mono ?_
  rintro e w4 ⟨rfl, b4⟩
  have HT4 := Lib.hid (HT3.out.keep b4)
  go_wp2_with fail
  refine (H4.out _ HT4.out).mono ?_
  rintro e w5 ⟨rfl, b5⟩
  have HT5 := Lib.hid (HT4.out.keep b5)
  go_wp2_with fail
  refine (H5.out _ HT5.out).mono ?_
  rintro e w6 ⟨rfl, b6⟩
  have HT6 := Lib.hid (HT5.out.keep b6)
  go_wp2_with fail
  refine (H6.out _ HT6.out).mono ?_
  rintro e w7 ⟨rfl, b7⟩
  have HT7 := Lib.hid (HT6.out.keep b7)
  go_wp2_with fail
  refine (H7.out _ HT7.out).mono ?_
  rintro e w8 ⟨rfl, b8⟩
  have HT8 := Lib.hid (HT7.out.keep b8)
  go_wp2_with fail
  go_ret
  have c2 := b1.trans (b2.mono b1.size)
  have c3 := c2.trans (b3.mono c2.size)
  have c4 := c3.trans (b4.mono c3.size)
  have c5 := c4.trans (b5.mono c4.size)
  have c6 := c5.trans (b6.mono c5.size)
  have c7 := c6.trans (b7.mono c6.size)
  have c8 := c7.trans (b8.mono c7.size)
  exact ⟨rfl, c8⟩
theorem turn_32 (a n x : Int) (w : World) (hT : Tab w) (hn : u64R n) (hx : inR 127 x) (hax : a % 4294967296 = x) (a0 : 0 ≤ a) :
    Calls Tryd.prog 8 #[.int .u64 a, .int .u64 n, .bool false] w fun e w' => e = .returned (.bool true) ∧ Below w.heap.size w w' := by
  have ht := (show isT 127 from .inl rfl)
  have hp := in_pow ht hx
  have hkn := kN_lt ht n
  have hkl := kN_lo ht n
  have xid := loT_id ht hx
  have n0 := hn.1
  have hLl := rl_lt (wN 127) (kN 127 n) x.toNat hp
  have hL := pow_in ht hLl
  have Lid := loT_id ht hL
  have hSl : x.toNat * 2 ^ kN 127 n % 2 ^ wN 127 < 2 ^ wN 127 := Nat.mod_lt _ (Nat.pow_pos (by omega))
  have hS := pow_in ht hSl
  have k0 : 0 ≤ n % 32 := by omega
  have k1 : n % 32 ≤ 31 := by omega
  have hc : u64R (32 - n % 32) := ⟨by omega, by omega⟩
  have hRl : x.toNat / 2 ^ kN 127 (32 - n % 32) < 2 ^ wN 127 := Nat.lt_of_le_of_lt (Nat.div_le_self _ _) hp
  have hR := pow_in ht hRl
  have H1 := at_any (op := 119) (l := 119) (by decide) (by decide) (by decide) (by omega) (inR_u hx) hn (show vaL 127 119 (loT 127 x) (loT 127 n) = ((rlN (wN 127) (kN 127 n) x.toNat : Nat) : Int) by rw [xid, va119 ht hx, hkl])
  have H2 := at_any (op := 120) (l := 120) (by decide) (by decide) (by decide) (by omega) (inR_u hL) hn (show vaL 127 120 (loT 127 ((rlN (wN 127) (kN 127 n) x.toNat : Nat) : Int)) (loT 127 n) = x by
    rw [Lid, va120 ht hL, hkl, Int.toNat_natCast, rot_back _ _ _ (Nat.le_of_lt hkn) hp]; exact Int.toNat_of_nonneg hx.1)
  have H3 := on_any (op := 105) (l := 105) (by decide) (by decide) (by decide) (by omega) (inR_u hx) (show vaL 127 105 (loT 127 x) (loT 127 0) = (popR x.toNat 64 : Int) by rw [xid, va105 ht])
  have top : ∀ N, N < 2 ^ wN 127 → popR N 64 = popR N (wN 127) := fun N hN => by
    have := popR_top N (wN 127) (64 - wN 127) hN
    rwa [show wN 127 + (64 - wN 127) = 64 from by have := w_le ht; omega] at this
  have H4 := on_any (op := 105) (l := 105) (by decide) (by decide) (by decide) (by omega) (inR_u hL) (show vaL 127 105 (loT 127 ((rlN (wN 127) (kN 127 n) x.toNat : Nat) : Int)) (loT 127 0) = (popR x.toNat 64 : Int) by
    rw [Lid, va105 ht, Int.toNat_natCast, top _ hLl, top _ hp, rot_pop _ _ _ (Nat.le_of_lt hkn) hp])
  have H5 := at_any (op := 116) (l := 116) (by decide) (by decide) (by decide) (by omega) (inR_u hx) hn (show vaL 127 116 (loT 127 x) (loT 127 n) = ((x.toNat * 2 ^ kN 127 n % 2 ^ wN 127 : Nat) : Int) by rw [xid, va116 ht hx, hkl])
  have H6 := at_any (op := 118) (l := 118) (by decide) (by decide) (by decide) (by omega) (inR_u hx) hc (show vaL 127 118 (loT 127 x) (loT 127 (32 - n % 32)) = ((x.toNat / 2 ^ kN 127 (32 - n % 32) : Nat) : Int) by rw [xid, va118 ht hx, kN_lo ht])
  have H7 := at_any (op := 114) (l := 114) (by decide) (by decide) (by decide) (by omega) (inR_u hS) (inR_u hR) (show vaL 127 114 (loT 127 ((x.toNat * 2 ^ kN 127 n % 2 ^ wN 127 : Nat) : Int)) (loT 127 ((x.toNat / 2 ^ kN 127 (32 - n % 32) : Nat) : Int)) = ((x.toNat * 2 ^ kN 127 n % 2 ^ wN 127 ||| x.toNat / 2 ^ kN 127 (32 - n % 32) : Nat) : Int) by
    rw [loT_id ht hS, loT_id ht hR, va114 ht hS hR, Int.toNat_natCast, Int.toNat_natCast])
  by_cases hz : n % 32 = 0
  · exact turn_32z a n x _ _ _ _ _ _ w hT n0 hax a0 rfl k0 k1 (by simpa using hz) H1 H2 H3 H4 H5 H6 H7
  · have e : kN 127 (32 - n % 32) = wN 127 - kN 127 n := by
      show ((32 - n % 32) % 32).toNat = 32 - (n % 32).toNat
      omega
    rw [e] at H6 H7
    exact turn_32n a n x _ _ _ _ _ w hT n0 hax a0 rfl k0 k1 (by simpa using hz) H1 H2 H3 H4 H5 H6 H7
theorem turn_64n (a n x k L c S R : Int) (w : World) (hT : Tab w) (n0 : 0 ≤ n) (hax : a = x) (_a0 : 0 ≤ a) (hk : n % 64 = k) (_k0 : 0 ≤ k) (_k1 : k ≤ 63) (hz : (k == 0) = false)
    (h1 : (∀ W, Tab W → Calls Tryd.prog 18 #[.int .i64 137, .int .u64 x, .int .u64 n] W fun e w' => e = .returned (.tuple #[.int .u64 L, .int .i64 0, .bool true]) ∧ Below W.heap.size W w')) (h2 : (∀ W, Tab W → Calls Tryd.prog 18 #[.int .i64 138, .int .u64 L, .int .u64 n] W fun e w' => e = .returned (.tuple #[.int .u64 x, .int .i64 0, .bool true]) ∧ Below W.heap.size W w')) (h3 : (∀ W, Tab W → Calls Tryd.prog 16 #[.int .i64 123, .int .u64 x] W fun e w' => e = .returned (.tuple #[.int .u64 c, .bool true]) ∧ Below W.heap.size W w')) (h4 : (∀ W, Tab W → Calls Tryd.prog 16 #[.int .i64 123, .int .u64 L] W fun e w' => e = .returned (.tuple #[.int .u64 c, .bool true]) ∧ Below W.heap.size W w')) (h5 : (∀ W, Tab W → Calls Tryd.prog 18 #[.int .i64 134, .int .u64 x, .int .u64 n] W fun e w' => e = .returned (.tuple #[.int .u64 S, .int .i64 0, .bool true]) ∧ Below W.heap.size W w')) (h6 : (∀ W, Tab W → Calls Tryd.prog 18 #[.int .i64 136, .int .u64 x, .int .u64 (64 - k)] W fun e w' => e = .returned (.tuple #[.int .u64 R, .int .i64 0, .bool true]) ∧ Below W.heap.size W w')) (h7 : (∀ W, Tab W → Calls Tryd.prog 18 #[.int .i64 132, .int .u64 S, .int .u64 R] W fun e w' => e = .returned (.tuple #[.int .u64 L, .int .i64 0, .bool true]) ∧ Below W.heap.size W w')) :
    Calls Tryd.prog 8 #[.int .u64 a, .int .u64 n, .bool true] w fun e w' => e = .returned (.bool true) ∧ Below w.heap.size w w' := by
  have HA := Lib.hid awake_any
  have H1 := Lib.hid h1
  have H2 := Lib.hid h2
  have H3 := Lib.hid h3
  have H4 := Lib.hid h4
  have H5 := Lib.hid h5
  have H6 := Lib.hid h6
  have H7 := Lib.hid h7
  have HT := Lib.hid hT
  clear hT h1 h2 h3 h4 h5 h6 h7
  subst hax
  go_enter Tryd.func8, Tryd.ntmps8
  go_wp2_with fail
  refine (HA.out _ HT.out).mono ?_
  rintro e w1 ⟨rfl, b1⟩
  have HT1 := Lib.hid (HT.out.keep b1)
  go_wp2_with fail
  refine (H1.out _ HT1.out).mono ?_
  rintro e w2 ⟨rfl, b2⟩
  have HT2 := Lib.hid (HT1.out.keep b2)
  go_wp2_with fail
  refine (H2.out _ HT2.out).mono ?_
  rintro e w3 ⟨rfl, b3⟩
  have HT3 := Lib.hid (HT2.out.keep b3)
  go_wp2_with fail
  refine (H3.out _ HT3.out).mono ?_
  rintro e w4 ⟨rfl, b4⟩
  have HT4 := Lib.hid (HT3.out.keep b4)
  go_wp2_with fail
  refine (H4.out _ HT4.out).mono ?_
  rintro e w5 ⟨rfl, b5⟩
  have HT5 := Lib.hid (HT4.out.keep b5)
  go_wp2_with fail
  refine (H5.out _ HT5.out).mono ?_
  rintro e w6 ⟨rfl, b6⟩
  have HT6 := Lib.hid (HT5.out.keep b6)
  go_wp2_with fail
  refine (H6.out _ HT6.out).mono ?_
  rintro e w7 ⟨rfl, b7⟩
  have HT7 := Lib.hid (HT6.out.keep b7)
  go_wp2_with fail
  refine (H7.out _ HT7.out).mono ?_
  rintro e w8 ⟨rfl, b8⟩
  have HT8 := Lib.hid (HT7.out.keep b8)
  go_wp2_with fail
  go_ret
  have c2 := b1.trans (b2.mono b1.size)
  have c3 := c2.trans (b3.mono c2.size)
  have c4 := c3.trans (b4.mono c3.size)
  have c5 := c4.trans (b5.mono c4.size)
  have c6 := c5.trans (b6.mono c5.size)
  have c7 := c6.trans (b7.mono c6.size)
  have c8 := c7.trans (b8.mono c7.size)
  exact ⟨rfl, c8⟩
theorem turn_64z (a n x k L c S R O : Int) (w : World) (hT : Tab w) (n0 : 0 ≤ n) (hax : a = x) (_a0 : 0 ≤ a) (hk : n % 64 = k) (_k0 : 0 ≤ k) (_k1 : k ≤ 63) (hz : (k == 0) = true)
    (h1 : (∀ W, Tab W → Calls Tryd.prog 18 #[.int .i64 137, .int .u64 x, .int .u64 n] W fun e w' => e = .returned (.tuple #[.int .u64 L, .int .i64 0, .bool true]) ∧ Below W.heap.size W w')) (h2 : (∀ W, Tab W → Calls Tryd.prog 18 #[.int .i64 138, .int .u64 L, .int .u64 n] W fun e w' => e = .returned (.tuple #[.int .u64 x, .int .i64 0, .bool true]) ∧ Below W.heap.size W w')) (h3 : (∀ W, Tab W → Calls Tryd.prog 16 #[.int .i64 123, .int .u64 x] W fun e w' => e = .returned (.tuple #[.int .u64 c, .bool true]) ∧ Below W.heap.size W w')) (h4 : (∀ W, Tab W → Calls Tryd.prog 16 #[.int .i64 123, .int .u64 L] W fun e w' => e = .returned (.tuple #[.int .u64 c, .bool true]) ∧ Below W.heap.size W w')) (h5 : (∀ W, Tab W → Calls Tryd.prog 18 #[.int .i64 134, .int .u64 x, .int .u64 n] W fun e w' => e = .returned (.tuple #[.int .u64 S, .int .i64 0, .bool true]) ∧ Below W.heap.size W w')) (h6 : (∀ W, Tab W → Calls Tryd.prog 18 #[.int .i64 136, .int .u64 x, .int .u64 (64 - k)] W fun e w' => e = .returned (.tuple #[.int .u64 R, .int .i64 0, .bool true]) ∧ Below W.heap.size W w')) (h7 : (∀ W, Tab W → Calls Tryd.prog 18 #[.int .i64 132, .int .u64 S, .int .u64 R] W fun e w' => e = .returned (.tuple #[.int .u64 O, .int .i64 0, .bool true]) ∧ Below W.heap.size W w')) :
    Calls Tryd.prog 8 #[.int .u64 a, .int .u64 n, .bool true] w fun e w' => e = .returned (.bool true) ∧ Below w.heap.size w w' := by
  have HA := Lib.hid awake_any
  have H1 := Lib.hid h1
  have H2 := Lib.hid h2
  have H3 := Lib.hid h3
  have H4 := Lib.hid h4
  have H5 := Lib.hid h5
  have H6 := Lib.hid h6
  have H7 := Lib.hid h7
  have HT := Lib.hid hT
  clear hT h1 h2 h3 h4 h5 h6 h7
  subst hax
  go_enter Tryd.func8, Tryd.ntmps8
  go_wp2_with fail
  refine (HA.out _ HT.out).mono ?_
  rintro e w1 ⟨rfl, b1⟩
  have HT1 := Lib.hid (HT.out.keep b1)
  go_wp2_with fail
  refine (H1.out _ HT1.out).mono ?_
  rintro e w2 ⟨rfl, b2⟩
  have HT2 := Lib.hid (HT1.out.keep b2)
  go_wp2_with fail
  refine (H2.out _ HT2.out).mono ?_
  rintro e w3 ⟨rfl, b3⟩
  have HT3 := Lib.hid (HT2.out.keep b3)
  go_wp2_with fail
  refine (H3.out _ HT3.out).mono ?_
  rintro e w4 ⟨rfl, b4⟩
  have HT4 := Lib.hid (HT3.out.keep b4)
  go_wp2_with fail
  refine (H4.out _ HT4.out).mono ?_
  rintro e w5 ⟨rfl, b5⟩
  have HT5 := Lib.hid (HT4.out.keep b5)
  go_wp2_with fail
  refine (H5.out _ HT5.out).mono ?_
  rintro e w6 ⟨rfl, b6⟩
  have HT6 := Lib.hid (HT5.out.keep b6)
  go_wp2_with fail
  refine (H6.out _ HT6.out).mono ?_
  rintro e w7 ⟨rfl, b7⟩
  have HT7 := Lib.hid (HT6.out.keep b7)
  go_wp2_with fail
  refine (H7.out _ HT7.out).mono ?_
  rintro e w8 ⟨rfl, b8⟩
  have HT8 := Lib.hid (HT7.out.keep b8)
  go_wp2_with fail
  go_ret
  have c2 := b1.trans (b2.mono b1.size)
  have c3 := c2.trans (b3.mono c2.size)
  have c4 := c3.trans (b4.mono c3.size)
  have c5 := c4.trans (b5.mono c4.size)
  have c6 := c5.trans (b6.mono c5.size)
  have c7 := c6.trans (b7.mono c6.size)
  have c8 := c7.trans (b8.mono c7.size)
  exact ⟨rfl, c8⟩
theorem turn_64 (a n x : Int) (w : World) (hT : Tab w) (hn : u64R n) (hx : inR 126 x) (hax : a = x) (a0 : 0 ≤ a) :
    Calls Tryd.prog 8 #[.int .u64 a, .int .u64 n, .bool true] w fun e w' => e = .returned (.bool true) ∧ Below w.heap.size w w' := by
  have ht := (show isT 126 from .inr rfl)
  have hp := in_pow ht hx
  have hkn := kN_lt ht n
  have hkl := kN_lo ht n
  have xid := loT_id ht hx
  have n0 := hn.1
  have hLl := rl_lt (wN 126) (kN 126 n) x.toNat hp
  have hL := pow_in ht hLl
  have Lid := loT_id ht hL
  have hSl : x.toNat * 2 ^ kN 126 n % 2 ^ wN 126 < 2 ^ wN 126 := Nat.mod_lt _ (Nat.pow_pos (by omega))
  have hS := pow_in ht hSl
  have k0 : 0 ≤ n % 64 := by omega
  have k1 : n % 64 ≤ 63 := by omega
  have hc : u64R (64 - n % 64) := ⟨by omega, by omega⟩
  have hRl : x.toNat / 2 ^ kN 126 (64 - n % 64) < 2 ^ wN 126 := Nat.lt_of_le_of_lt (Nat.div_le_self _ _) hp
  have hR := pow_in ht hRl
  have H1 := at_any (op := 137) (l := 119) (by decide) (by decide) (by decide) (by omega) (inR_u hx) hn (show vaL 126 119 (loT 126 x) (loT 126 n) = ((rlN (wN 126) (kN 126 n) x.toNat : Nat) : Int) by rw [xid, va119 ht hx, hkl])
  have H2 := at_any (op := 138) (l := 120) (by decide) (by decide) (by decide) (by omega) (inR_u hL) hn (show vaL 126 120 (loT 126 ((rlN (wN 126) (kN 126 n) x.toNat : Nat) : Int)) (loT 126 n) = x by
    rw [Lid, va120 ht hL, hkl, Int.toNat_natCast, rot_back _ _ _ (Nat.le_of_lt hkn) hp]; exact Int.toNat_of_nonneg hx.1)
  have H3 := on_any (op := 123) (l := 105) (by decide) (by decide) (by decide) (by omega) (inR_u hx) (show vaL 126 105 (loT 126 x) (loT 126 0) = (popR x.toNat 64 : Int) by rw [xid, va105 ht])
  have top : ∀ N, N < 2 ^ wN 126 → popR N 64 = popR N (wN 126) := fun N hN => by
    have := popR_top N (wN 126) (64 - wN 126) hN
    rwa [show wN 126 + (64 - wN 126) = 64 from by have := w_le ht; omega] at this
  have H4 := on_any (op := 123) (l := 105) (by decide) (by decide) (by decide) (by omega) (inR_u hL) (show vaL 126 105 (loT 126 ((rlN (wN 126) (kN 126 n) x.toNat : Nat) : Int)) (loT 126 0) = (popR x.toNat 64 : Int) by
    rw [Lid, va105 ht, Int.toNat_natCast, top _ hLl, top _ hp, rot_pop _ _ _ (Nat.le_of_lt hkn) hp])
  have H5 := at_any (op := 134) (l := 116) (by decide) (by decide) (by decide) (by omega) (inR_u hx) hn (show vaL 126 116 (loT 126 x) (loT 126 n) = ((x.toNat * 2 ^ kN 126 n % 2 ^ wN 126 : Nat) : Int) by rw [xid, va116 ht hx, hkl])
  have H6 := at_any (op := 136) (l := 118) (by decide) (by decide) (by decide) (by omega) (inR_u hx) hc (show vaL 126 118 (loT 126 x) (loT 126 (64 - n % 64)) = ((x.toNat / 2 ^ kN 126 (64 - n % 64) : Nat) : Int) by rw [xid, va118 ht hx, kN_lo ht])
  have H7 := at_any (op := 132) (l := 114) (by decide) (by decide) (by decide) (by omega) (inR_u hS) (inR_u hR) (show vaL 126 114 (loT 126 ((x.toNat * 2 ^ kN 126 n % 2 ^ wN 126 : Nat) : Int)) (loT 126 ((x.toNat / 2 ^ kN 126 (64 - n % 64) : Nat) : Int)) = ((x.toNat * 2 ^ kN 126 n % 2 ^ wN 126 ||| x.toNat / 2 ^ kN 126 (64 - n % 64) : Nat) : Int) by
    rw [loT_id ht hS, loT_id ht hR, va114 ht hS hR, Int.toNat_natCast, Int.toNat_natCast])
  by_cases hz : n % 64 = 0
  · exact turn_64z a n x _ _ _ _ _ _ w hT n0 hax a0 rfl k0 k1 (by simpa using hz) H1 H2 H3 H4 H5 H6 H7
  · have e : kN 126 (64 - n % 64) = wN 126 - kN 126 n := by
      show ((64 - n % 64) % 64).toNat = 64 - (n % 64).toNat
      omega
    rw [e] at H6 H7
    exact turn_64n a n x _ _ _ _ _ w hT n0 hax a0 rfl k0 k1 (by simpa using hz) H1 H2 H3 H4 H5 H6 H7
theorem turn_any (a n : Int) (wide : Bool) (wa : (Lit.int .u64 a).wf = true) (wn : (Lit.int .u64 n).wf = true) (w : World) (hT : Tab w) :
    Calls Tryd.prog 8 #[.int .u64 a, .int .u64 n, .bool wide] w fun e w' => e = .returned (.bool true) ∧ Below w.heap.size w w' := by
  obtain ⟨a0, a1⟩ := u64_of wa
  have hn := u64_of wn
  cases wide
  · exact turn_32 a n _ w hT hn (show 0 ≤ a % 4294967296 ∧ a % 4294967296 ≤ 4294967295 by omega) rfl a0
  · exact turn_64 a n a w hT hn ⟨a0, a1⟩ rfl a0
end Go.Proofs.YtoclfldmkipokaaDoor.Ints
