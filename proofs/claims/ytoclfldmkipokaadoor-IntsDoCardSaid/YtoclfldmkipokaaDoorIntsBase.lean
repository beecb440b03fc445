/- The program's own small functions of layer 2, walked: which type an operator takes and gives, what is signed, what is cut. -/
import Derived.Test.YtoclfldmkipokaaDoorIntsRef
import Derived.OwnWalk
namespace Go.Proofs.YtoclfldmkipokaaDoor.Ints
open Go.RowKit

theorem ret_tup3 {k1 k2 : IntKind} {a b c d : Int} {x y : Bool} (h : a = b) (h2 : c = d) (h3 : x = y) : Ending.returned (.tuple #[.int k1 a, .int k2 c, .bool x]) = .returned (.tuple #[.int k1 b, .int k2 d, .bool y]) := by rw [h, h2, h3]
/-- One of the two types. -/
def isT (t : Int) : Prop := t = 127 ∨ t = 126
/-- Its digits; its lowest digits of a number; a value's signed number; its least one. -/
def wdT (t : Int) : Int := if t = 127 then 32 else 64
def loT (t v : Int) : Int := if t = 127 then v % 4294967296 else v
def sgT (t v : Int) : Int := if t = 127 then sg32 (v % 4294967296) else sg64 v
def leT (t : Int) : Int := if t = 127 then 2147483648 else 9223372036854775808
/-- A number of 64 digits. -/
def u64R (v : Int) : Prop := 0 ≤ v ∧ v ≤ 18446744073709551615
theorem sg32_wrap (v : Int) : wrap64 (wrap32 v) = sg32 (v % 4294967296) := by unfold sg32 wrap64 wrap32; split <;> omega

set_option maxRecDepth 100000
theorem value_32 (n : Int) (w : World) : Calls Tryd.prog 24 #[.int .u8 127, .int .i64 n] w fun e w' => e = .returned (.int .u64 (n % 4294967296)) ∧ w = w' := by
  go_enter Tryd.func24, Tryd.ntmps24
  go_wp2
  go_ret
  exact ⟨rfl, rfl⟩
theorem value_64 (t n : Int) (w : World) (ht : t ≠ 127) : Calls Tryd.prog 24 #[.int .u8 t, .int .i64 n] w fun e w' => e = .returned (.int .u64 (n % 18446744073709551616)) ∧ w = w' := by
  have hb : (t == 127) = false := by simpa using ht
  clear ht
  go_enter Tryd.func24, Tryd.ntmps24
  go_wp2
  go_ret
  exact ⟨rfl, rfl⟩
theorem sgn_32 (v : Int) (w : World) : Calls Tryd.prog 22 #[.int .u8 127, .int .u64 v] w fun e w' => e = .returned (.int .i64 (sg32 (v % 4294967296))) ∧ w = w' := by
  go_enter Tryd.func22, Tryd.ntmps22
  go_wp2
  go_ret
  exact ⟨ret_int (sg32_wrap v), rfl⟩
theorem sgn_64 (t v : Int) (w : World) (ht : t ≠ 127) (hv : u64R v) : Calls Tryd.prog 22 #[.int .u8 t, .int .u64 v] w fun e w' => e = .returned (.int .i64 (sg64 v)) ∧ w = w' := by
  have hb : (t == 127) = false := by simpa using ht
  have H := Lib.hid (wrap64_sg hv.1 hv.2)
  clear ht hv
  go_enter Tryd.func22, Tryd.ntmps22
  go_wp2
  go_ret
  exact ⟨ret_int H.out, rfl⟩
theorem sgn_any (t v : Int) (w : World) (hv : u64R v) : Calls Tryd.prog 22 #[.int .u8 t, .int .u64 v] w fun e w' => e = .returned (.int .i64 (sgT t v)) ∧ w = w' := by
  by_cases h : t = 127
  · subst h
    exact (sgn_32 v w).mono fun e w' ⟨h1, h2⟩ => ⟨by rw [h1]; simp [sgT], h2⟩
  · exact (sgn_64 t v w h hv).mono fun e w' ⟨h1, h2⟩ => ⟨by rw [h1]; simp [sgT, h], h2⟩

def vaT (t n : Int) : Int := if t = 127 then n % 4294967296 else n % 18446744073709551616
theorem value_any (t n : Int) (w : World) : Calls Tryd.prog 24 #[.int .u8 t, .int .i64 n] w fun e w' => e = .returned (.int .u64 (vaT t n)) ∧ w = w' := by
  by_cases h : t = 127
  · subst h
    exact (value_32 n w).mono fun e w' ⟨h1, h2⟩ => ⟨by rw [h1]; simp [vaT], h2⟩
  · exact (value_64 t n w h).mono fun e w' ⟨h1, h2⟩ => ⟨by rw [h1]; simp [vaT, h], h2⟩
theorem vaT_lo (t v : Int) (hv : u64R v) : vaT t (wrap64 v) = loT t v := by
  obtain ⟨h0, h1⟩ := hv
  unfold vaT loT wrap64; split <;> omega
theorem lowest_any (t v : Int) (w : World) (hv : u64R v) : Calls Tryd.prog 39 #[.int .u8 t, .int .u64 v] w fun e w' => e = .returned (.int .u64 (loT t v)) ∧ w = w' := by
  have H := Lib.hid (vaT_lo t v hv)
  clear hv
  go_enter Tryd.func39, Tryd.ntmps39
  go_wp2_with (go_at_call 24; refine (value_any _ _ _).mono ?_; rintro e w' ⟨rfl, rfl⟩)
  go_ret
  exact ⟨ret_int H.out, rfl⟩
theorem width_32 (w : World) : Calls Tryd.prog 59 #[.int .u8 127] w fun e w' => e = .returned (.int .u64 32) ∧ w = w' := by
  go_enter Tryd.func59, Tryd.ntmps59
  go_wp2
  go_ret
  exact ⟨rfl, rfl⟩
theorem width_64 (w : World) : Calls Tryd.prog 59 #[.int .u8 126] w fun e w' => e = .returned (.int .u64 64) ∧ w = w' := by
  go_enter Tryd.func59, Tryd.ntmps59
  go_wp2
  go_ret
  exact ⟨rfl, rfl⟩
theorem width_any (t : Int) (w : World) (ht : isT t) : Calls Tryd.prog 59 #[.int .u8 t] w fun e w' => e = .returned (.int .u64 (wdT t)) ∧ w = w' := by
  rcases ht with rfl | rfl
  · exact width_32 w
  · exact width_64 w
theorem least_any (t : Int) (w : World) (ht : isT t) : Calls Tryd.prog 47 #[.int .u8 t] w fun e w' => e = .returned (.int .u64 (leT t)) ∧ w = w' := by
  rcases ht with rfl | rfl
  · go_enter Tryd.func47, Tryd.ntmps47
    go_wp2_with (go_at_call 59; refine (width_32 _).mono ?_; rintro e w' ⟨rfl, rfl⟩)
    go_ret
    exact ⟨ret_int (by rfl), rfl⟩
  · go_enter Tryd.func47, Tryd.ntmps47
    go_wp2_with (go_at_call 59; refine (width_64 _).mono ?_; rintro e w' ⟨rfl, rfl⟩)
    go_ret
    exact ⟨ret_int (by rfl), rfl⟩

/-- Is a number a value of a type? -/
def fitT (t v : Int) : Bool := decide (t = 126) || (decide (t = 127) && decide (v < 4294967296))
theorem fits_any (t v : Int) (w : World) (hv : u64R v) : Calls Tryd.prog 20 #[.int .u8 t, .int .u64 v] w fun e w' => e = .returned (.bool (fitT t v)) ∧ w = w' := by
  by_cases h6 : t = 126
  · subst h6
    have H : Hid (fitT 126 v = true) := by show _ = _; simp [fitT]
    go_enter Tryd.func20, Tryd.ntmps20
    go_wp2
    go_ret
    exact ⟨ret_bool H.out.symm, rfl⟩
  · by_cases h7 : t = 127
    · subst h7
      have hl := lowest_any 127 v
      by_cases hf : v < 4294967296
      · have H : Hid (fitT 127 v = true) := by show _ = _; simp [fitT, hf]
        have hb : (loT 127 v == v) = true := by simp [loT]; have := hv.1; omega
        have HL := Lib.hid (fun W => hl W hv)
        clear hl hv
        go_enter Tryd.func20, Tryd.ntmps20
        go_wp2_with (go_at_call 39; refine (HL.out _).mono ?_; rintro e w' ⟨rfl, rfl⟩)
        go_ret
        exact ⟨ret_bool H.out.symm, rfl⟩
      · have H : Hid (fitT 127 v = false) := by show _ = _; simp [fitT]; omega
        have hb : (loT 127 v == v) = false := by simp [loT]; have := hv.1; omega
        have HL := Lib.hid (fun W => hl W hv)
        clear hl hv hf
        go_enter Tryd.func20, Tryd.ntmps20
        go_wp2_with (go_at_call 39; refine (HL.out _).mono ?_; rintro e w' ⟨rfl, rfl⟩)
        go_ret
        exact ⟨ret_bool H.out.symm, rfl⟩
    · have H : Hid (fitT t v = false) := by show _ = _; simp [fitT, h6, h7]
      have hb : (t == 126) = false := by simpa using h6
      have hb7 : (t == 127) = false := by simpa using h7
      clear h6 h7 hv
      go_enter Tryd.func20, Tryd.ntmps20
      go_wp2
      go_ret
      exact ⟨ret_bool H.out.symm, rfl⟩

/-- What an operator is: the type that it takes, its likeness, whether it is one. -/
def famT (op : Int) : Int := if 69 ≤ op ∧ op ≤ 79 ∨ 103 ≤ op ∧ op ≤ 120 ∨ op = 172 ∨ op = 173 then 127 else if 80 ≤ op ∧ op ≤ 90 ∨ 121 ≤ op ∧ op ≤ 138 ∨ op = 167 then 126 else 0
def famL (op : Int) : Int := if 69 ≤ op ∧ op ≤ 79 ∨ 103 ≤ op ∧ op ≤ 120 ∨ op = 172 ∨ op = 173 ∨ op = 167 then op else if 80 ≤ op ∧ op ≤ 90 then op - 11 else if 121 ≤ op ∧ op ≤ 138 then op - 18 else 0
def famB (op : Int) : Bool := decide (69 ≤ op ∧ op ≤ 90 ∨ 103 ≤ op ∧ op ≤ 138 ∨ op = 172 ∨ op = 173 ∨ op = 167)
theorem family_any (op : Int) (w : World) : Calls Tryd.prog 26 #[.int .i64 op] w fun e w' => e = .returned (.tuple #[.int .u8 (famT op), .int .i64 (famL op), .bool (famB op)]) ∧ w = w' := by
  by_cases h1 : 69 ≤ op ∧ op ≤ 79
  · have H : Hid (famT op = 127 ∧ famL op = op ∧ famB op = true) := by show _ ∧ _; refine ⟨if_pos (by omega), if_pos (by omega), decide_eq_true (by omega)⟩
    obtain ⟨h1, h1'⟩ := h1
    go_enter Tryd.func26, Tryd.ntmps26
    go_wp2
    go_ret3
    exact ⟨ret_tup3 H.out.1.symm H.out.2.1.symm H.out.2.2.symm, rfl⟩
  · by_cases h2 : 103 ≤ op ∧ op ≤ 120
    · have H : Hid (famT op = 127 ∧ famL op = op ∧ famB op = true) := by show _ ∧ _; refine ⟨if_pos (by omega), if_pos (by omega), decide_eq_true (by omega)⟩
      obtain ⟨h2, h2'⟩ := h2
      clear h1
      go_enter Tryd.func26, Tryd.ntmps26
      go_wp2
      go_ret3
      exact ⟨ret_tup3 H.out.1.symm H.out.2.1.symm H.out.2.2.symm, rfl⟩
    · by_cases h3 : 80 ≤ op ∧ op ≤ 90
      · have H : Hid (famT op = 126 ∧ famL op = op - 11 ∧ famB op = true) := by show _ ∧ _; refine ⟨(if_neg (by omega)).trans (if_pos (by omega)), (if_neg (by omega)).trans (if_pos (by omega)), decide_eq_true (by omega)⟩
        obtain ⟨h3, h3'⟩ := h3
        clear h1 h2
        go_enter Tryd.func26, Tryd.ntmps26
        go_wp2
        go_ret3
        exact ⟨ret_tup3 H.out.1.symm H.out.2.1.symm H.out.2.2.symm, rfl⟩
      · by_cases h4 : 121 ≤ op ∧ op ≤ 138
        · have H : Hid (famT op = 126 ∧ famL op = op - 18 ∧ famB op = true) := by show _ ∧ _; refine ⟨(if_neg (by omega)).trans (if_pos (by omega)), (if_neg (by omega)).trans ((if_neg (by omega)).trans (if_pos (by omega))), decide_eq_true (by omega)⟩
          obtain ⟨h4, h4'⟩ := h4
          clear h1 h2 h3
          go_enter Tryd.func26, Tryd.ntmps26
          go_wp2
          go_ret3
          exact ⟨ret_tup3 H.out.1.symm H.out.2.1.symm H.out.2.2.symm, rfl⟩
        · by_cases h5 : op = 172 ∨ op = 173 ∨ op = 167
          · rcases h5 with rfl | rfl | rfl <;>
            · go_enter Tryd.func26, Tryd.ntmps26
              go_wp2
              go_ret3
              exact ⟨rfl, rfl⟩
          · have H : Hid (famT op = 0 ∧ famL op = 0 ∧ famB op = false) := by show _ ∧ _; refine ⟨(if_neg (by omega)).trans (if_neg (by omega)), (if_neg (by omega)).trans ((if_neg (by omega)).trans (if_neg (by omega))), decide_eq_false (by omega)⟩
            have e1 : (op == 172) = false := by simp; omega
            have e2 : (op == 173) = false := by simp; omega
            have e3 : (op == 167) = false := by simp; omega
            have hc : op < 69 ∨ (90 < op ∧ op < 103) ∨ 138 < op := by omega
            clear h1 h2 h3 h4 h5
            rcases hc with h | ⟨h, h'⟩ | h <;>
            · go_enter Tryd.func26, Tryd.ntmps26
              go_wp2
              go_ret3
              exact ⟨ret_tup3 H.out.1.symm H.out.2.1.symm H.out.2.2.symm, rfl⟩

/-- Does it take one number? -/
def tkB (l : Int) : Bool := decide (l = 69) || (decide (103 ≤ l) && decide (l ≤ 105)) || decide (120 < l)
theorem takes_any (l : Int) (w : World) : Calls Tryd.prog 27 #[.int .i64 l] w fun e w' => e = .returned (.bool (tkB l)) ∧ w = w' := by
  by_cases h1 : l = 69
  · subst h1
    go_enter Tryd.func27, Tryd.ntmps27
    go_wp2
    go_ret
    exact ⟨rfl, rfl⟩
  · have e1 : (l == 69) = false := by simpa using h1
    by_cases h2 : l < 103
    · have H : Hid (tkB l = false) := by show _ = _; simp [tkB, h1]; omega
      have d4 : decide (120 < l) = false := by simp; omega
      clear h1
      go_enter Tryd.func27, Tryd.ntmps27
      go_wp2
      go_ret
      exact ⟨ret_bool H.out.symm, rfl⟩
    · by_cases h3 : l ≤ 105
      · have H : Hid (tkB l = true) := by show _ = _; simp [tkB, h1, h3]; omega
        have h2' : 103 ≤ l := by omega
        clear h1 h2
        go_enter Tryd.func27, Tryd.ntmps27
        go_wp2
        go_ret
        exact ⟨ret_bool H.out.symm, rfl⟩
      · by_cases h4 : 120 < l
        · have H : Hid (tkB l = true) := by show _ = _; simp [tkB, h4]
          clear h1 h2 h3
          go_enter Tryd.func27, Tryd.ntmps27
          go_wp2
          go_ret
          exact ⟨ret_bool H.out.symm, rfl⟩
        · have H : Hid (tkB l = false) := by show _ = _; simp [tkB, h1]; omega
          have d3 : decide (l ≤ 105) = false := by simp; omega
          have d4 : decide (120 < l) = false := by simp; omega
          have h2' : 103 ≤ l := by omega
          clear h1 h2 h3 h4
          go_enter Tryd.func27, Tryd.ntmps27
          go_wp2
          go_ret
          exact ⟨ret_bool H.out.symm, rfl⟩

/-- The type that it gives. -/
def gvT (t l : Int) : Int := if l ≤ 79 ∨ l = 167 then 127 else if l = 172 ∨ l = 173 then 126 else t
theorem given_any (t l : Int) (w : World) : Calls Tryd.prog 28 #[.int .u8 t, .int .i64 l] w fun e w' => e = .returned (.int .u8 (gvT t l)) ∧ w = w' := by
  by_cases h1 : l ≤ 79
  · have H : Hid (gvT t l = 127) := if_pos (.inl h1)
    go_enter Tryd.func28, Tryd.ntmps28
    go_wp2
    go_ret
    exact ⟨ret_int H.out.symm, rfl⟩
  · by_cases h2 : l = 167 ∨ l = 172 ∨ l = 173
    · rcases h2 with rfl | rfl | rfl <;>
      · clear h1
        go_enter Tryd.func28, Tryd.ntmps28
        go_wp2
        go_ret
        exact ⟨rfl, rfl⟩
    · have H : Hid (gvT t l = t) := (if_neg (by omega)).trans (if_neg (by omega))
      have e1 : (l == 172) = false := by simp; omega
      have e2 : (l == 173) = false := by simp; omega
      have e3 : (l == 167) = false := by simp; omega
      have h' : 79 < l := by omega
      clear h1 h2
      go_enter Tryd.func28, Tryd.ntmps28
      go_wp2
      go_ret
      exact ⟨ret_int H.out.symm, rfl⟩
end Go.Proofs.YtoclfldmkipokaaDoor.Ints
