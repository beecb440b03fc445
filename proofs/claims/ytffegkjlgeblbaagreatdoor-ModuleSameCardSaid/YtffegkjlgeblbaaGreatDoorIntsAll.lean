/- IntsAll. -/
import Derived.Test.YtffegkjlgeblbaaGreatDoorChecked
import Derived.WalkKit
import Derived.OpenShut
import Derived.Lib.Hide
import Derived.WalkSpells
import Derived.OwnWalk
import Derived.Below
/- Several parts in one text. -/
/- The document's own small functions of layer 2, walked: what they answer, as plain functions on numbers. -/
namespace Go.Proofs.YtffegkjlgeblbaaGreatDoor.Ints
open Go.RowKit

theorem ret_int {k : IntKind} {a b : Int} (h : a = b) : Ending.returned (.int k a) = .returned (.int k b) := by rw [h]
theorem ret_bool {a b : Bool} (h : a = b) : Ending.returned (.bool a) = .returned (.bool b) := by rw [h]

def sg32 (v : Int) : Int := if 2147483648 ≤ v then v - 4294967296 else v
def sg64 (v : Int) : Int := if 9223372036854775808 ≤ v then v - 18446744073709551616 else v
theorem wrap64_sg {v : Int} (h0 : 0 ≤ v) (h1 : v ≤ 18446744073709551615) : wrap64 v = sg64 v := by unfold wrap64 sg64; split <;> omega
end Go.Proofs.YtffegkjlgeblbaaGreatDoor.Ints

/- The program's own small functions of layer 2, walked: which type an operator takes and gives, what is signed, what is cut. -/
namespace Go.Proofs.YtffegkjlgeblbaaGreatDoor.Ints
open Go.RowKit

def loT (t v : Int) : Int := if t = 127 then v % 4294967296 else v
def sgT (t v : Int) : Int := if t = 127 then sg32 (v % 4294967296) else sg64 v
def u64R (v : Int) : Prop := 0 ≤ v ∧ v ≤ 18446744073709551615
theorem sg32_wrap (v : Int) : wrap64 (wrap32 v) = sg32 (v % 4294967296) := by unfold sg32 wrap64 wrap32; split <;> omega

set_option maxRecDepth 100000
theorem value_32 (n : Int) (w : World) : Calls Tryz.prog 289 #[.int .u8 127, .int .i64 n] w fun e w' => e = .returned (.int .u64 (n % 4294967296)) ∧ w = w' := by
  go_enter Tryz.func289, Tryz.ntmps289
  go_wp2
  go_ret
  exact ⟨rfl, rfl⟩
theorem value_64 (t n : Int) (w : World) (ht : t ≠ 127) : Calls Tryz.prog 289 #[.int .u8 t, .int .i64 n] w fun e w' => e = .returned (.int .u64 (n % 18446744073709551616)) ∧ w = w' := by
  have hb : (t == 127) = false := by simpa using ht
  clear ht
  go_enter Tryz.func289, Tryz.ntmps289
  go_wp2
  go_ret
  exact ⟨rfl, rfl⟩
theorem sgn_32 (v : Int) (w : World) : Calls Tryz.prog 280 #[.int .u8 127, .int .u64 v] w fun e w' => e = .returned (.int .i64 (sg32 (v % 4294967296))) ∧ w = w' := by
  go_enter Tryz.func280, Tryz.ntmps280
  go_wp2
  go_ret
  exact ⟨ret_int (sg32_wrap v), rfl⟩
theorem sgn_64 (t v : Int) (w : World) (ht : t ≠ 127) (hv : u64R v) : Calls Tryz.prog 280 #[.int .u8 t, .int .u64 v] w fun e w' => e = .returned (.int .i64 (sg64 v)) ∧ w = w' := by
  have hb : (t == 127) = false := by simpa using ht
  have H := Lib.hid (wrap64_sg hv.1 hv.2)
  clear ht hv
  go_enter Tryz.func280, Tryz.ntmps280
  go_wp2
  go_ret
  exact ⟨ret_int H.out, rfl⟩
theorem sgn_any (t v : Int) (w : World) (hv : u64R v) : Calls Tryz.prog 280 #[.int .u8 t, .int .u64 v] w fun e w' => e = .returned (.int .i64 (sgT t v)) ∧ w = w' := by
  by_cases h : t = 127
  · subst h
    exact (sgn_32 v w).mono fun e w' ⟨h1, h2⟩ => ⟨by rw [h1]; simp [sgT], h2⟩
  · exact (sgn_64 t v w h hv).mono fun e w' ⟨h1, h2⟩ => ⟨by rw [h1]; simp [sgT, h], h2⟩

def vaT (t n : Int) : Int := if t = 127 then n % 4294967296 else n % 18446744073709551616
theorem value_any (t n : Int) (w : World) : Calls Tryz.prog 289 #[.int .u8 t, .int .i64 n] w fun e w' => e = .returned (.int .u64 (vaT t n)) ∧ w = w' := by
  by_cases h : t = 127
  · subst h
    exact (value_32 n w).mono fun e w' ⟨h1, h2⟩ => ⟨by rw [h1]; simp [vaT], h2⟩
  · exact (value_64 t n w h).mono fun e w' ⟨h1, h2⟩ => ⟨by rw [h1]; simp [vaT, h], h2⟩
theorem vaT_lo (t v : Int) (hv : u64R v) : vaT t (wrap64 v) = loT t v := by
  obtain ⟨h0, h1⟩ := hv
  unfold vaT loT wrap64; split <;> omega
theorem lowest_any (t v : Int) (w : World) (hv : u64R v) : Calls Tryz.prog 292 #[.int .u8 t, .int .u64 v] w fun e w' => e = .returned (.int .u64 (loT t v)) ∧ w = w' := by
  have H := Lib.hid (vaT_lo t v hv)
  clear hv
  go_enter Tryz.func292, Tryz.ntmps292
  go_wp2_with (go_at_call 289; refine (value_any _ _ _).mono ?_; rintro e w' ⟨rfl, rfl⟩)
  go_ret
  exact ⟨ret_int H.out, rfl⟩
def fitT (t v : Int) : Bool := decide (t = 126) || (decide (t = 127) && decide (v < 4294967296))
theorem fits_any (t v : Int) (w : World) (hv : u64R v) : Calls Tryz.prog 277 #[.int .u8 t, .int .u64 v] w fun e w' => e = .returned (.bool (fitT t v)) ∧ w = w' := by
  by_cases h6 : t = 126
  · subst h6
    have H : Hid (fitT 126 v = true) := by show _ = _; simp [fitT]
    go_enter Tryz.func277, Tryz.ntmps277
    go_wp2
    go_ret
    exact ⟨ret_bool H.out.symm, rfl⟩
  · by_cases h7 : t = 127
    · subst h7
      have hl := lowest_any 127 v
      by_cases hf : v < 4294967296
      · have H : Hid (fitT 127 v = true) := by show _ = _; simp [fitT, hf]
        have hb : (loT 127 v == v) = true := by simp [loT]; have := hv.1; omega
        have HL := Lib.hid (fun W => hl W hv)
        clear hl hv
        go_enter Tryz.func277, Tryz.ntmps277
        go_wp2_with (go_at_call 292; refine (HL.out _).mono ?_; rintro e w' ⟨rfl, rfl⟩)
        go_ret
        exact ⟨ret_bool H.out.symm, rfl⟩
      · have H : Hid (fitT 127 v = false) := by show _ = _; simp [fitT]; omega
        have hb : (loT 127 v == v) = false := by simp [loT]; have := hv.1; omega
        have HL := Lib.hid (fun W => hl W hv)
        clear hl hv hf
        go_enter Tryz.func277, Tryz.ntmps277
        go_wp2_with (go_at_call 292; refine (HL.out _).mono ?_; rintro e w' ⟨rfl, rfl⟩)
        go_ret
        exact ⟨ret_bool H.out.symm, rfl⟩
    · have H : Hid (fitT t v = false) := by show _ = _; simp [fitT, h6, h7]
      have hb : (t == 126) = false := by simpa using h6
      have hb7 : (t == 127) = false := by simpa using h7
      clear h6 h7 hv
      go_enter Tryz.func277, Tryz.ntmps277
      go_wp2
      go_ret
      exact ⟨ret_bool H.out.symm, rfl⟩

end Go.Proofs.YtffegkjlgeblbaaGreatDoor.Ints

/- What an operator takes and gives, by the program and by the document, and the document's Signed and Value: as XIntsShape and XIntsValuesWalk have them, without what layer 2's own statements want beside. For later layers. -/
namespace Go.Proofs.YtffegkjlgeblbaaGreatDoor.Ints
open Go.RowKit
set_option maxRecDepth 100000
set_option maxHeartbeats 400000

end Go.Proofs.YtffegkjlgeblbaaGreatDoor.Ints
