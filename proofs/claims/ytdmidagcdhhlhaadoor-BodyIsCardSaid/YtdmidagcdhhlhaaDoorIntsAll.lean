/- Several parts in one text. -/
import Derived.Test.YtdmidagcdhhlhaaDoorChecked
import Derived.WalkKit
import Derived.OpenShut
import Derived.Lib.Hide
import Derived.WalkSpells
import Derived.OwnWalk
import Derived.Below
/- The document's own small functions of layer 2, walked: what they answer, as plain functions on numbers. -/
namespace Go.Proofs.YtdmidagcdhhlhaaDoor.Ints
open Go.RowKit

theorem ret_int {k : IntKind} {a b : Int} (h : a = b) : Ending.returned (.int k a) = .returned (.int k b) := by rw [h]
theorem ret_bool {a b : Bool} (h : a = b) : Ending.returned (.bool a) = .returned (.bool b) := by rw [h]

/-- Operators' places and widths. -/
theorem kind_a (op : Int) (w : World) (h1 : 69 ≤ op) (h2 : op ≤ 79) : Calls Tryd.prog 98 #[.int .i64 op] w fun e w' => e = .returned (.tuple #[.int .i64 (op - 69), .int .i64 32]) ∧ w = w' := by
  go_enter Tryd.func98, Tryd.ntmps98
  go_wp2
  go_ret2
  exact ⟨rfl, rfl⟩
theorem kind_b (op : Int) (w : World) (h1 : 80 ≤ op) (h2 : op ≤ 90) : Calls Tryd.prog 98 #[.int .i64 op] w fun e w' => e = .returned (.tuple #[.int .i64 (op - 80), .int .i64 64]) ∧ w = w' := by
  go_enter Tryd.func98, Tryd.ntmps98
  go_wp2
  go_ret2
  exact ⟨rfl, rfl⟩
theorem kind_c (op : Int) (w : World) (h1 : 103 ≤ op) (h2 : op ≤ 120) : Calls Tryd.prog 98 #[.int .i64 op] w fun e w' => e = .returned (.tuple #[.int .i64 (op - 92), .int .i64 32]) ∧ w = w' := by
  go_enter Tryd.func98, Tryd.ntmps98
  go_wp2
  go_ret2
  exact ⟨rfl, rfl⟩
theorem kind_d (op : Int) (w : World) (h1 : 121 ≤ op) (h2 : op ≤ 138) : Calls Tryd.prog 98 #[.int .i64 op] w fun e w' => e = .returned (.tuple #[.int .i64 (op - 110), .int .i64 64]) ∧ w = w' := by
  go_enter Tryd.func98, Tryd.ntmps98
  go_wp2
  go_ret2
  exact ⟨rfl, rfl⟩
/-- Codes that are no operators of a width. -/
def noKind (op : Int) : Prop := op < 69 ∨ (90 < op ∧ op < 103) ∨ 138 < op
theorem kind_none (op : Int) (w : World) (h : noKind op) : Calls Tryd.prog 98 #[.int .i64 op] w fun e w' => e = .returned (.tuple #[.int .i64 (-1), .int .i64 0]) ∧ w = w' := by
  rcases h with h | ⟨h, h'⟩ | h
  · go_enter Tryd.func98, Tryd.ntmps98
    go_wp2
    go_ret2
    exact ⟨rfl, rfl⟩
  · go_enter Tryd.func98, Tryd.ntmps98
    go_wp2
    go_ret2
    exact ⟨rfl, rfl⟩
  · go_enter Tryd.func98, Tryd.ntmps98
    go_wp2
    go_ret2
    exact ⟨rfl, rfl⟩

theorem low_32 (v : Int) (w : World) (h0 : 0 ≤ v) : Calls Tryd.prog 88 #[.int .u64 v, .int .i64 32] w fun e w' => e = .returned (.int .u64 (v % 4294967296)) ∧ w = w' := by
  go_enter Tryd.func88, Tryd.ntmps88
  go_wp2
  go_ret
  exact ⟨rfl, rfl⟩
theorem low_64 (v : Int) (w : World) : Calls Tryd.prog 88 #[.int .u64 v, .int .i64 64] w fun e w' => e = .returned (.int .u64 v) ∧ w = w' := by
  go_enter Tryd.func88, Tryd.ntmps88
  go_wp2
  go_ret
  exact ⟨rfl, rfl⟩

/-- A value's signed number. -/
def sg32 (v : Int) : Int := if 2147483648 ≤ v then v - 4294967296 else v
def sg64 (v : Int) : Int := if 9223372036854775808 ≤ v then v - 18446744073709551616 else v
theorem wrap64_sg {v : Int} (h0 : 0 ≤ v) (h1 : v ≤ 18446744073709551615) : wrap64 v = sg64 v := by unfold wrap64 sg64; split <;> omega
theorem signed_32 (v : Int) (w : World) (h0 : 0 ≤ v) (h1 : v ≤ 4294967295) : Calls Tryd.prog 87 #[.int .u64 v, .int .i64 32] w fun e w' => e = .returned (.int .i64 (sg32 v)) ∧ w = w' := by
  by_cases h : 2147483648 ≤ v
  · have H : Hid (sg32 v = v - 4294967296) := if_pos h
    go_enter Tryd.func87, Tryd.ntmps87
    go_wp2
    go_ret
    exact ⟨ret_int H.out.symm, rfl⟩
  · have H : Hid (sg32 v = v) := if_neg h
    go_enter Tryd.func87, Tryd.ntmps87
    go_wp2
    go_ret
    exact ⟨ret_int H.out.symm, rfl⟩
theorem signed_64 (v : Int) (w : World) (h0 : 0 ≤ v) (h1 : v ≤ 18446744073709551615) : Calls Tryd.prog 87 #[.int .u64 v, .int .i64 64] w fun e w' => e = .returned (.int .i64 (sg64 v)) ∧ w = w' := by
  have H := Lib.hid (wrap64_sg h0 h1)
  clear h0 h1
  go_enter Tryd.func87, Tryd.ntmps87
  go_wp2
  go_ret
  exact ⟨ret_int H.out, rfl⟩

/-- A digit. -/
def dig (v : Nat) (i : Nat) : Nat := v / 2 ^ i % 2
theorem dig_le (v i : Nat) : dig v i ≤ 1 := by unfold dig; omega
/-- Zeros at the top of so many digits, zeros at the bottom, ones. -/
def clzR (v : Nat) : Nat → Nat
  | 0 => 0
  | n + 1 => if dig v n = 0 then clzR v n + 1 else 0
def ctzR (v : Nat) : Nat → Nat → Nat
  | _, 0 => 0
  | i, n + 1 => if dig v i = 0 then ctzR v (i + 1) n + 1 else 0
def popR (v : Nat) : Nat → Nat
  | 0 => 0
  | n + 1 => popR v n + dig v n
theorem clzR_le (v n : Nat) : clzR v n ≤ n := by
  induction n with
  | zero => exact Nat.le_refl _
  | succ n ih => unfold clzR; split <;> omega
theorem ctzR_le (v : Nat) : ∀ (n i : Nat), ctzR v i n ≤ n
  | 0, _ => Nat.le_refl _
  | n + 1, i => by have := ctzR_le v n (i + 1); unfold ctzR; split <;> omega
theorem popR_le (v n : Nat) : popR v n ≤ n := by
  induction n with
  | zero => exact Nat.le_refl _
  | succ n ih => have := dig_le v n; unfold popR; omega

end Go.Proofs.YtdmidagcdhhlhaaDoor.Ints

/- The program's own small functions of layer 2, walked: which type an operator takes and gives, what is signed, what is cut. -/
namespace Go.Proofs.YtdmidagcdhhlhaaDoor.Ints
open Go.RowKit

theorem ret_tup3 {k1 k2 : IntKind} {a b c d : Int} {x y : Bool} (h : a = b) (h2 : c = d) (h3 : x = y) : Ending.returned (.tuple #[.int k1 a, .int k2 c, .bool x]) = .returned (.tuple #[.int k1 b, .int k2 d, .bool y]) := by rw [h, h2, h3]
/-- One of the two types. -/
def isT (t : Int) : Prop := t = 127 ∨ t = 126
/-- Its digits; its lowest digits of a number; a value's signed number; its least one. -/
def wdT (t : Int) : Int := if t = 127 then 32 else 64
def loT (t v : Int) : Int := if t = 127 then v % 4294967296 else v
def sgT (t v : Int) : Int := if t = 127 then sg32 (v % 4294967296) else sg64 v
def leT (t : Int) : Int := if t = 127 then 2147483648 else 9223372036854775808
/-- A number of 64 digits. -/
def u64R (v : Int) : Prop := 0 ≤ v ∧ v ≤ 18446744073709551615
theorem sg32_wrap (v : Int) : wrap64 (wrap32 v) = sg32 (v % 4294967296) := by unfold sg32 wrap64 wrap32; split <;> omega

set_option maxRecDepth 100000
theorem value_32 (n : Int) (w : World) : Calls Tryd.prog 70 #[.int .u8 127, .int .i64 n] w fun e w' => e = .returned (.int .u64 (n % 4294967296)) ∧ w = w' := by
  go_enter Tryd.func70, Tryd.ntmps70
  go_wp2
  go_ret
  exact ⟨rfl, rfl⟩
theorem value_64 (t n : Int) (w : World) (ht : t ≠ 127) : Calls Tryd.prog 70 #[.int .u8 t, .int .i64 n] w fun e w' => e = .returned (.int .u64 (n % 18446744073709551616)) ∧ w = w' := by
  have hb : (t == 127) = false := by simpa using ht
  clear ht
  go_enter Tryd.func70, Tryd.ntmps70
  go_wp2
  go_ret
  exact ⟨rfl, rfl⟩
theorem sgn_32 (v : Int) (w : World) : Calls Tryd.prog 85 #[.int .u8 127, .int .u64 v] w fun e w' => e = .returned (.int .i64 (sg32 (v % 4294967296))) ∧ w = w' := by
  go_enter Tryd.func85, Tryd.ntmps85
  go_wp2
  go_ret
  exact ⟨ret_int (sg32_wrap v), rfl⟩
theorem sgn_64 (t v : Int) (w : World) (ht : t ≠ 127) (hv : u64R v) : Calls Tryd.prog 85 #[.int .u8 t, .int .u64 v] w fun e w' => e = .returned (.int .i64 (sg64 v)) ∧ w = w' := by
  have hb : (t == 127) = false := by simpa using ht
  have H := Lib.hid (wrap64_sg hv.1 hv.2)
  clear ht hv
  go_enter Tryd.func85, Tryd.ntmps85
  go_wp2
  go_ret
  exact ⟨ret_int H.out, rfl⟩
theorem sgn_any (t v : Int) (w : World) (hv : u64R v) : Calls Tryd.prog 85 #[.int .u8 t, .int .u64 v] w fun e w' => e = .returned (.int .i64 (sgT t v)) ∧ w = w' := by
  by_cases h : t = 127
  · subst h
    exact (sgn_32 v w).mono fun e w' ⟨h1, h2⟩ => ⟨by rw [h1]; simp [sgT], h2⟩
  · exact (sgn_64 t v w h hv).mono fun e w' ⟨h1, h2⟩ => ⟨by rw [h1]; simp [sgT, h], h2⟩

def vaT (t n : Int) : Int := if t = 127 then n % 4294967296 else n % 18446744073709551616
theorem value_any (t n : Int) (w : World) : Calls Tryd.prog 70 #[.int .u8 t, .int .i64 n] w fun e w' => e = .returned (.int .u64 (vaT t n)) ∧ w = w' := by
  by_cases h : t = 127
  · subst h
    exact (value_32 n w).mono fun e w' ⟨h1, h2⟩ => ⟨by rw [h1]; simp [vaT], h2⟩
  · exact (value_64 t n w h).mono fun e w' ⟨h1, h2⟩ => ⟨by rw [h1]; simp [vaT, h], h2⟩
theorem vaT_lo (t v : Int) (hv : u64R v) : vaT t (wrap64 v) = loT t v := by
  obtain ⟨h0, h1⟩ := hv
  unfold vaT loT wrap64; split <;> omega
theorem lowest_any (t v : Int) (w : World) (hv : u64R v) : Calls Tryd.prog 93 #[.int .u8 t, .int .u64 v] w fun e w' => e = .returned (.int .u64 (loT t v)) ∧ w = w' := by
  have H := Lib.hid (vaT_lo t v hv)
  clear hv
  go_enter Tryd.func93, Tryd.ntmps93
  go_wp2_with (go_at_call 70; refine (value_any _ _ _).mono ?_; rintro e w' ⟨rfl, rfl⟩)
  go_ret
  exact ⟨ret_int H.out, rfl⟩
/-- Is a number a value of a type? -/
def fitT (t v : Int) : Bool := decide (t = 126) || (decide (t = 127) && decide (v < 4294967296))
theorem fits_any (t v : Int) (w : World) (hv : u64R v) : Calls Tryd.prog 80 #[.int .u8 t, .int .u64 v] w fun e w' => e = .returned (.bool (fitT t v)) ∧ w = w' := by
  by_cases h6 : t = 126
  · subst h6
    have H : Hid (fitT 126 v = true) := by show _ = _; simp [fitT]
    go_enter Tryd.func80, Tryd.ntmps80
    go_wp2
    go_ret
    exact ⟨ret_bool H.out.symm, rfl⟩
  · by_cases h7 : t = 127
    · subst h7
      have hl := lowest_any 127 v
      by_cases hf : v < 4294967296
      · have H : Hid (fitT 127 v = true) := by show _ = _; simp [fitT, hf]
        have hb : (loT 127 v == v) = true := by simp [loT]; have := hv.1; omega
        have HL := Lib.hid (fun W => hl W hv)
        clear hl hv
        go_enter Tryd.func80, Tryd.ntmps80
        go_wp2_with (go_at_call 93; refine (HL.out _).mono ?_; rintro e w' ⟨rfl, rfl⟩)
        go_ret
        exact ⟨ret_bool H.out.symm, rfl⟩
      · have H : Hid (fitT 127 v = false) := by show _ = _; simp [fitT]; omega
        have hb : (loT 127 v == v) = false := by simp [loT]; have := hv.1; omega
        have HL := Lib.hid (fun W => hl W hv)
        clear hl hv hf
        go_enter Tryd.func80, Tryd.ntmps80
        go_wp2_with (go_at_call 93; refine (HL.out _).mono ?_; rintro e w' ⟨rfl, rfl⟩)
        go_ret
        exact ⟨ret_bool H.out.symm, rfl⟩
    · have H : Hid (fitT t v = false) := by show _ = _; simp [fitT, h6, h7]
      have hb : (t == 126) = false := by simpa using h6
      have hb7 : (t == 127) = false := by simpa using h7
      clear h6 h7 hv
      go_enter Tryd.func80, Tryd.ntmps80
      go_wp2
      go_ret
      exact ⟨ret_bool H.out.symm, rfl⟩

/-- What an operator is: the type that it takes, its likeness, whether it is one. -/
def famT (op : Int) : Int := if 69 ≤ op ∧ op ≤ 79 ∨ 103 ≤ op ∧ op ≤ 120 ∨ op = 172 ∨ op = 173 then 127 else if 80 ≤ op ∧ op ≤ 90 ∨ 121 ≤ op ∧ op ≤ 138 ∨ op = 167 then 126 else 0
def famL (op : Int) : Int := if 69 ≤ op ∧ op ≤ 79 ∨ 103 ≤ op ∧ op ≤ 120 ∨ op = 172 ∨ op = 173 ∨ op = 167 then op else if 80 ≤ op ∧ op ≤ 90 then op - 11 else if 121 ≤ op ∧ op ≤ 138 then op - 18 else 0
def famB (op : Int) : Bool := decide (69 ≤ op ∧ op ≤ 90 ∨ 103 ≤ op ∧ op ≤ 138 ∨ op = 172 ∨ op = 173 ∨ op = 167)
/-- Does it take one number? -/
def tkB (l : Int) : Bool := decide (l = 69) || (decide (103 ≤ l) && decide (l ≤ 105)) || decide (120 < l)
/-- The type that it gives. -/
def gvT (t l : Int) : Int := if l ≤ 79 ∨ l = 167 then 127 else if l = 172 ∨ l = 173 then 126 else t
end Go.Proofs.YtdmidagcdhhlhaaDoor.Ints

/- What an operator takes and gives, by the program and by the document, and the document's Signed and Value: as XIntsShape and XIntsValuesWalk have them, without what layer 2's own statements want beside. For later layers. -/
namespace Go.Proofs.YtdmidagcdhhlhaaDoor.Ints
open Go.RowKit
set_option maxRecDepth 100000
set_option maxHeartbeats 400000

/-- A shape: nothing; of one; of two. -/
def ShN (f : FuncId) (op : Int) : Prop := ∀ w, Calls Tryd.prog f #[.int .i64 op] w fun e w' => e = .returned (.tuple #[.slice none 0 0, .int .u8 0, .bool false]) ∧ w = w'
def Sh1 (f : FuncId) (op T G : Int) : Prop := ∀ w, Calls Tryd.prog f #[.int .i64 op] w fun e w' => e = .returned (.tuple #[.slice (some ⟨w.heap.size, 0, none⟩) 1 1, .int .u8 G, .bool true]) ∧ w.alloc (.cells #[.int .u8 T] 5) = w'
def Sh2 (f : FuncId) (op T G : Int) : Prop := ∀ w, Calls Tryd.prog f #[.int .i64 op] w fun e w' => e = .returned (.tuple #[.slice (some ⟨w.heap.size, 0, none⟩) 2 2, .int .u8 G, .bool true]) ∧ w.alloc (.cells #[.int .u8 T, .int .u8 T] 5) = w'
theorem of_32 (w : World) : Calls Tryd.prog 99 #[.int .i64 32] w fun e w' => e = .returned (.int .u8 127) ∧ w = w' := by
  go_enter Tryd.func99, Tryd.ntmps99
  go_wp2
  go_ret
  exact ⟨rfl, rfl⟩
theorem of_64 (w : World) : Calls Tryd.prog 99 #[.int .i64 64] w fun e w' => e = .returned (.int .u8 126) ∧ w = w' := by
  go_enter Tryd.func99, Tryd.ntmps99
  go_wp2
  go_ret
  exact ⟨rfl, rfl⟩
/-- An operator's place among those of its type, and how many digits. -/
def KindIs (op k n : Int) : Prop := ∀ w, Calls Tryd.prog 98 #[.int .i64 op] w fun e w' => e = .returned (.tuple #[.int .i64 k, .int .i64 n]) ∧ w = w'
theorem rsh_167 : Sh1 86 167 126 127 := by
  intro w
  have HK := Lib.hid (fun W => kind_none 167 W (by unfold noKind; omega))
  go_enter Tryd.func86, Tryd.ntmps86
  go_wp2_with fail
  refine (HK.out _).mono ?_
  rintro e w' ⟨rfl, rfl⟩
  go_wp2_with fail
  go_ret3
  exact ⟨rfl, rfl⟩
theorem rsh_ext (op : Int) (h : op = 172 ∨ op = 173) : Sh1 86 op 127 126 := by
  intro w
  have HK := Lib.hid (fun W => kind_none op W (by unfold noKind; omega))
  rcases h with rfl | rfl <;>
  · go_enter Tryd.func86, Tryd.ntmps86
    go_wp2_with fail
    refine (HK.out _).mono ?_
    rintro e w' ⟨rfl, rfl⟩
    go_wp2_with fail
    go_ret3
    exact ⟨rfl, rfl⟩
theorem rsh_none (op : Int) (hn : noKind op) (e1 : (op == 167) = false) (e2 : (op == 172) = false) (e3 : (op == 173) = false) : ShN 86 op := by
  intro w
  have HK := Lib.hid (fun W => kind_none op W hn)
  clear hn
  go_enter Tryd.func86, Tryd.ntmps86
  go_wp2_with fail
  refine (HK.out _).mono ?_
  rintro e w' ⟨rfl, rfl⟩
  go_wp2_with fail
  go_ret3
  exact ⟨rfl, rfl⟩
/-- A place's shape: the test of one digit's width. -/
theorem rsh_0 (op n T : Int) (hk : KindIs op 0 n) (e1 : (op == 167) = false) (e2 : (op == 172) = false) (e3 : (op == 173) = false) (hf : ∀ W, Calls Tryd.prog 99 #[.int .i64 n] W fun e w' => e = .returned (.int .u8 T) ∧ W = w') : Sh1 86 op T 127 := by
  intro w
  have HK := Lib.hid hk
  have HF := Lib.hid hf
  clear hk hf
  go_enter Tryd.func86, Tryd.ntmps86
  go_wp2_with fail
  refine (HK.out _).mono ?_
  rintro e w' ⟨rfl, rfl⟩
  go_wp2_with fail
  refine (HF.out _).mono ?_
  rintro e w' ⟨rfl, rfl⟩
  go_wp2_with fail
  go_ret3
  exact ⟨rfl, rfl⟩
theorem rsh_c (op k n T : Int) (hk : KindIs op k n) (k1 : 1 ≤ k) (k2 : k ≤ 10) (e1 : (op == 167) = false) (e2 : (op == 172) = false) (e3 : (op == 173) = false) (hf : ∀ W, Calls Tryd.prog 99 #[.int .i64 n] W fun e w' => e = .returned (.int .u8 T) ∧ W = w') : Sh2 86 op T 127 := by
  intro w
  have HK := Lib.hid hk
  have HF := Lib.hid hf
  have e0 : (k == 0) = false := by simp; omega
  have d0 : decide (k < 0) = false := by simp; omega
  clear hk hf
  go_enter Tryd.func86, Tryd.ntmps86
  go_wp2_with fail
  refine (HK.out _).mono ?_
  rintro e w' ⟨rfl, rfl⟩
  go_wp2_with fail
  refine (HF.out _).mono ?_
  rintro e w' ⟨rfl, rfl⟩
  go_wp2_with fail
  refine (HF.out _).mono ?_
  rintro e w' ⟨rfl, rfl⟩
  go_wp2_with fail
  go_ret3
  exact ⟨rfl, rfl⟩
theorem rsh_1 (op k n T : Int) (hk : KindIs op k n) (k1 : 11 ≤ k) (k2 : k ≤ 13) (e1 : (op == 167) = false) (e2 : (op == 172) = false) (e3 : (op == 173) = false) (hf : ∀ W, Calls Tryd.prog 99 #[.int .i64 n] W fun e w' => e = .returned (.int .u8 T) ∧ W = w') : Sh1 86 op T T := by
  intro w
  have HK := Lib.hid hk
  have HF := Lib.hid hf
  have e0 : (k == 0) = false := by simp; omega
  have d0 : decide (k < 0) = false := by simp; omega
  have d1 : decide (k ≤ 10) = false := by simp; omega
  clear hk hf
  go_enter Tryd.func86, Tryd.ntmps86
  go_wp2_with fail
  refine (HK.out _).mono ?_
  rintro e w' ⟨rfl, rfl⟩
  go_wp2_with fail
  refine (HF.out _).mono ?_
  rintro e w' ⟨rfl, rfl⟩
  go_wp2_with fail
  refine (HF.out _).mono ?_
  rintro e w' ⟨rfl, rfl⟩
  go_wp2_with fail
  go_ret3
  exact ⟨rfl, rfl⟩
theorem rsh_2 (op k n T : Int) (hk : KindIs op k n) (k1 : 14 ≤ k) (e1 : (op == 167) = false) (e2 : (op == 172) = false) (e3 : (op == 173) = false) (hf : ∀ W, Calls Tryd.prog 99 #[.int .i64 n] W fun e w' => e = .returned (.int .u8 T) ∧ W = w') : Sh2 86 op T T := by
  intro w
  have HK := Lib.hid hk
  have HF := Lib.hid hf
  have e0 : (k == 0) = false := by simp; omega
  have d0 : decide (k < 0) = false := by simp; omega
  have d1 : decide (k ≤ 10) = false := by simp; omega
  have d2 : decide (k ≤ 13) = false := by simp; omega
  clear hk hf
  go_enter Tryd.func86, Tryd.ntmps86
  go_wp2_with fail
  refine (HK.out _).mono ?_
  rintro e w' ⟨rfl, rfl⟩
  go_wp2_with fail
  refine (HF.out _).mono ?_
  rintro e w' ⟨rfl, rfl⟩
  go_wp2_with fail
  refine (HF.out _).mono ?_
  rintro e w' ⟨rfl, rfl⟩
  go_wp2_with fail
  refine (HF.out _).mono ?_
  rintro e w' ⟨rfl, rfl⟩
  go_wp2_with fail
  go_ret3
  exact ⟨rfl, rfl⟩
theorem rsigned_any (t v : Int) (w : World) (hv : u64R v) : Calls Tryd.prog 60 #[.int .u8 t, .int .u64 v] w fun e w' => e = .returned (.int .i64 (sgT t v)) ∧ w = w' := by
  by_cases h7 : t = 127
  · subst h7
    have HL := Lib.hid (fun W => low_32 v W hv.1)
    have HS := Lib.hid (fun W => signed_32 (v % 4294967296) W (by omega) (by omega))
    have HV : Hid (sg32 (v % 4294967296) = sgT 127 v) := rfl
    clear hv
    go_enter Tryd.func60, Tryd.ntmps60
    go_wp2_with fail
    refine (HL.out _).mono ?_
    rintro e w' ⟨rfl, rfl⟩
    go_wp2_with fail
    refine (HS.out _).mono ?_
    rintro e w' ⟨rfl, rfl⟩
    go_wp2_with fail
    go_ret
    exact ⟨ret_int HV.out, rfl⟩
  · have hb7 : (t == 127) = false := by simpa using h7
    have HV : Hid (wrap64 v = sgT t v) := (wrap64_sg hv.1 hv.2).trans (if_neg h7).symm
    clear hv h7
    go_enter Tryd.func60, Tryd.ntmps60
    go_wp2
    go_ret
    exact ⟨ret_int HV.out, rfl⟩
theorem rvalue_any (t n : Int) (w : World) : Calls Tryd.prog 75 #[.int .u8 t, .int .i64 n] w fun e w' => e = .returned (.int .u64 (vaT t n)) ∧ w = w' := by
  by_cases h7 : t = 127
  · subst h7
    have HL := Lib.hid (fun W => low_32 (IntKind.u64.wrap n) W (by rw [IntKind.wrap_u64]; omega))
    have HV : Hid (IntKind.u64.wrap n % 4294967296 = vaT 127 n) := by
      show IntKind.u64.wrap n % 4294967296 = n % 4294967296
      rw [IntKind.wrap_u64]; omega
    go_enter Tryd.func75, Tryd.ntmps75
    go_wp2_with fail
    refine (HL.out _).mono ?_
    rintro e w' ⟨rfl, rfl⟩
    go_wp2_with fail
    go_ret
    exact ⟨ret_int HV.out, rfl⟩
  · have hb7 : (t == 127) = false := by simpa using h7
    have HV : Hid (IntKind.u64.wrap n = vaT t n) := (IntKind.wrap_u64 n).trans (if_neg h7).symm
    clear h7
    go_enter Tryd.func75, Tryd.ntmps75
    go_wp2
    go_ret
    exact ⟨ret_int HV.out, rfl⟩
/-- Is a code an operator? -/
def opB (op : Int) : Bool := decide ((69 ≤ op ∧ op ≤ 90) ∨ (103 ≤ op ∧ op ≤ 138) ∨ op = 167 ∨ op = 172 ∨ op = 173)
/-- A shape, told: whether there is one. -/
def ShIs (f : FuncId) (op : Int) : Prop := ∀ w, Calls Tryd.prog f #[.int .i64 op] w fun e w' => ∃ A n T, e = .returned (.tuple #[.slice A n n, .int .u8 T, .bool (opB op)]) ∧ Below w.heap.size w w'
theorem ShN.is {f : FuncId} {op : Int} (h : ShN f op) (ho : opB op = false) : ShIs f op := fun w => (h w).mono fun e w' ⟨he, hw⟩ => by
  subst he hw
  rw [ho]
  exact ⟨none, 0, 0, rfl, Below.refl _ _⟩
theorem Sh1.is {f : FuncId} {op T G : Int} (h : Sh1 f op T G) (ho : opB op = true) : ShIs f op := fun w => (h w).mono fun e w' ⟨he, hw⟩ => by
  subst he hw
  rw [ho]
  exact ⟨_, 1, _, rfl, (Below.refl _ _).alloc (Nat.le_refl _) _⟩
theorem Sh2.is {f : FuncId} {op T G : Int} (h : Sh2 f op T G) (ho : opB op = true) : ShIs f op := fun w => (h w).mono fun e w' ⟨he, hw⟩ => by
  subst he hw
  rw [ho]
  exact ⟨_, 2, _, rfl, (Below.refl _ _).alloc (Nat.le_refl _) _⟩
theorem opB_yes {op : Int} (h : (69 ≤ op ∧ op ≤ 90) ∨ (103 ≤ op ∧ op ≤ 138) ∨ op = 167 ∨ op = 172 ∨ op = 173) : opB op = true := decide_eq_true h
theorem opB_no {op : Int} (h : ¬ ((69 ≤ op ∧ op ≤ 90) ∨ (103 ≤ op ∧ op ≤ 138) ∨ op = 167 ∨ op = 172 ∨ op = 173)) : opB op = false := decide_eq_false h
theorem rshape_is (op : Int) : ShIs 86 op := by
  by_cases a1 : op = 167
  · subst a1; exact rsh_167.is (by decide)
  · by_cases a2 : op = 172 ∨ op = 173
    · exact (rsh_ext op a2).is (opB_yes (by omega))
    · have e1 : (op == 167) = false := by simpa using a1
      have e2 : (op == 172) = false := by simp; omega
      have e3 : (op == 173) = false := by simp; omega
      by_cases hn : noKind op
      · exact (rsh_none op hn e1 e2 e3).is (opB_no (by unfold noKind at hn; omega))
      · unfold noKind at hn
        have ho : opB op = true := opB_yes (by omega)
        have key : ∀ (k n T : Int), 0 ≤ k → KindIs op k n → (∀ W, Calls Tryd.prog 99 #[.int .i64 n] W fun e w' => e = .returned (.int .u8 T) ∧ W = w') → ShIs 86 op := by
          intro k n T k0 hk hf
          by_cases q0 : k = 0
          · subst q0; exact (rsh_0 op n T hk e1 e2 e3 hf).is ho
          · by_cases q1 : k ≤ 10
            · exact (rsh_c op k n T hk (by omega) q1 e1 e2 e3 hf).is ho
            · by_cases q2 : k ≤ 13
              · exact (rsh_1 op k n T hk (by omega) q2 e1 e2 e3 hf).is ho
              · exact (rsh_2 op k n T hk (by omega) e1 e2 e3 hf).is ho
        by_cases b1 : op ≤ 79
        · exact key (op - 69) 32 127 (by omega) (fun w => kind_a op w (by omega) b1) of_32
        · by_cases b2 : op ≤ 90
          · exact key (op - 80) 64 126 (by omega) (fun w => kind_b op w (by omega) b2) of_64
          · by_cases b3 : op ≤ 120
            · exact key (op - 92) 32 127 (by omega) (fun w => kind_c op w (by omega) b3) of_32
            · exact key (op - 110) 64 126 (by omega) (fun w => kind_d op w (by omega) (by omega)) of_64
end Go.Proofs.YtdmidagcdhhlhaaDoor.Ints
