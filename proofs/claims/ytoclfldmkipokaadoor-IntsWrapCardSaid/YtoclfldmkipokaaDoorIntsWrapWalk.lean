/- IntsWrap walked: a number of 32 digits is itself, extended and wrapped again, both ways. -/
import Derived.Test.YtoclfldmkipokaaDoorIntsLaid
namespace Go.Proofs.YtoclfldmkipokaaDoor.Ints
open Go.RowKit
set_option maxRecDepth 100000
set_option maxHeartbeats 1000000

theorem on_172 (x : Int) (h0 : 0 ≤ x) (h1 : x ≤ 4294967295) : onV 172 x = sg32 x % 18446744073709551616 := by
  rw [on_nt (t := 127) (l := 172) x (by decide) (by decide) (by decide) (by omega)]
  show sg32 (x % 4294967296 % 4294967296) % 18446744073709551616 = _
  rw [show x % 4294967296 % 4294967296 = x from by omega]
theorem on_173 (x : Int) (h0 : 0 ≤ x) (h1 : x ≤ 4294967295) : onV 173 x = x := by
  rw [on_nt (t := 127) (l := 173) x (by decide) (by decide) (by decide) (by omega)]
  show x % 4294967296 = _
  omega
theorem on_167 (x : Int) : onV 167 x = x % 4294967296 := by
  rw [on_nt (t := 126) (l := 167) x (by decide) (by decide) (by decide) (by omega)]
  rfl
theorem wrap_any (a : Int) (wa : (Lit.int .u64 a).wf = true) (w : World) (hT : Tab w) :
    Calls Tryd.prog 10 #[.int .u64 a] w fun e w' => e = .returned (.bool true) ∧ Below w.heap.size w w' := by
  have ha := u64_of wa
  obtain ⟨a0, a1⟩ := ha
  obtain ⟨x, hx⟩ : ∃ x, a % 4294967296 = x := ⟨_, rfl⟩
  have x0 : 0 ≤ x := by omega
  have x1 : x ≤ 4294967295 := by omega
  obtain ⟨s, hs⟩ : ∃ s, sg32 x % 18446744073709551616 = s := ⟨_, rfl⟩
  have hs0 : u64R s := by rw [← hs]; exact modR _
  have hsx : s % 4294967296 = x ∧ wrap64 s = sg32 x := by
    rw [← hs]; unfold sg32 wrap64; split <;> omega
  have H0 := Lib.hid awake_any
  have H1 := Lib.hid (one_at ((on_172 x x0 x1).trans hs) (by decide) ⟨x0, by omega⟩)
  have H2 := Lib.hid (one_at (on_173 x x0 x1) (by decide) ⟨x0, by omega⟩)
  have H3 := Lib.hid (one_at ((on_167 s).trans hsx.1) (by decide) hs0)
  have H4 := Lib.hid (one_at ((on_167 x).trans (show x % 4294967296 = x by omega)) (by decide) ⟨x0, by omega⟩)
  have H5 : Hid (∀ W, Calls Tryd.prog 22 #[.int .u8 127, .int .u64 x] W fun e w' => e = .returned (.int .i64 (sg32 x)) ∧ W = w') := fun W => by
    have := sgn_32 x W
    rw [show x % 4294967296 = x from by omega] at this
    exact this
  have H6 : Hid (∀ W, Calls Tryd.prog 24 #[.int .u8 127, .int .i64 (sg32 x)] W fun e w' => e = .returned (.int .u64 x) ∧ W = w') := fun W => by
    have := value_32 (sg32 x) W
    rw [show sg32 x % 4294967296 = x from by unfold sg32; split <;> omega] at this
    exact this
  have H7 : Hid (∀ W, Calls Tryd.prog 20 #[.int .u8 127, .int .u64 x] W fun e w' => e = .returned (.bool true) ∧ W = w') := fun W => by
    have := fits_any 127 x W ⟨x0, by omega⟩
    rw [show fitT 127 x = true from by simp [fitT]; omega] at this
    exact this
  have hw := hsx.2
  have HT := Lib.hid hT
  clear hT hs hsx hs0
  go_enter Tryd.func10, Tryd.ntmps10
  go_wp2_with fail
  refine (H0.out _ HT.out).mono ?_
  rintro e w1 ⟨rfl, b1⟩
  have HT1 := Lib.hid (HT.out.keep b1)
  go_wp2_with fail
  refine (H1.out _ HT1.out).mono ?_
  rintro e w2 ⟨rfl, b2⟩
  have HT2 := Lib.hid (HT1.out.keep b2)
  go_wp2_with fail
  refine (H2.out _ HT2.out).mono ?_
  rintro e w3 ⟨rfl, b3⟩
  have HT3 := Lib.hid (HT2.out.keep b3)
  go_wp2_with fail
  refine (H3.out _ HT3.out).mono ?_
  rintro e w4 ⟨rfl, b4⟩
  have HT4 := Lib.hid (HT3.out.keep b4)
  go_wp2_with fail
  refine (H4.out _ HT4.out).mono ?_
  rintro e w5 ⟨rfl, b5⟩
  go_wp2_with fail
  refine (H5.out _).mono ?_
  rintro e w' ⟨rfl, rfl⟩
  go_wp2_with fail
  refine (H6.out _).mono ?_
  rintro e w' ⟨rfl, rfl⟩
  go_wp2_with fail
  refine (H7.out _).mono ?_
  rintro e w' ⟨rfl, rfl⟩
  go_wp2_with fail
  go_ret
  have c2 := b1.trans (b2.mono b1.size)
  have c3 := c2.trans (b3.mono c2.size)
  have c4 := c3.trans (b4.mono c3.size)
  exact ⟨rfl, c4.trans (b5.mono c4.size)⟩
end Go.Proofs.YtoclfldmkipokaaDoor.Ints
