/- Why two values can't be divided: the program's own test, walked. -/
import Derived.Test.YtoclfldmkipokaaDoorIntsRule
namespace Go.Proofs.YtoclfldmkipokaaDoor.Ints
open Go.RowKit
set_option maxRecDepth 100000
set_option maxHeartbeats 1000000

def trT (t l a b : Int) : Int := if l < 109 ∨ 112 < l then 0 else if b = 0 then 2 else if l = 109 ∧ a = leT t ∧ sgT t b = -1 then 3 else 0
theorem trap_any (t l a b : Int) (w : World) (ht : isT t) (hb : u64R b) : Calls Tryd.prog 42 #[.int .u8 t, .int .i64 l, .int .u64 a, .int .u64 b] w fun e w' => e = .returned (.int .i64 (trT t l a b)) ∧ w = w' := by
  have HL := Lib.hid (fun W => least_any t W ht)
  have HS := Lib.hid (fun W => sgn_any t b W hb)
  clear ht hb
  by_cases h1 : l < 109
  · have H : Hid (trT t l a b = 0) := if_pos (.inl h1)
    go_enter Tryd.func42, Tryd.ntmps42
    go_wp2
    go_ret
    exact ⟨ret_int H.out.symm, rfl⟩
  · by_cases h2 : 112 < l
    · have H : Hid (trT t l a b = 0) := if_pos (.inr h2)
      have h1' : 109 ≤ l := by omega
      clear h1
      go_enter Tryd.func42, Tryd.ntmps42
      go_wp2
      go_ret
      exact ⟨ret_int H.out.symm, rfl⟩
    · have h1' : 109 ≤ l := by omega
      have d2 : decide (112 < l) = false := by simp; omega
      by_cases h3 : b = 0
      · have H : Hid (trT t l a b = 2) := (if_neg (by omega)).trans (if_pos h3)
        subst h3
        clear h1 h2
        go_enter Tryd.func42, Tryd.ntmps42
        go_wp2
        go_ret
        exact ⟨ret_int H.out.symm, rfl⟩
      · have e3 : (b == 0) = false := by simpa using h3
        by_cases h4 : l = 109
        · subst h4
          by_cases h5 : a = leT t
          · have e5 : (a == leT t) = true := by simpa using h5
            by_cases h6 : sgT t b = -1
            · have e6 : (sgT t b == -1) = true := by simpa using h6
              have H : Hid (trT t 109 a b = 3) := (if_neg (by omega)).trans ((if_neg h3).trans (if_pos ⟨rfl, h5, h6⟩))
              clear h1 h2 h3 h5 h6
              go_enter Tryd.func42, Tryd.ntmps42
              go_wp2_with (first | (go_at_call 47; refine (HL.out _).mono ?_; rintro e w' ⟨rfl, rfl⟩) | (go_at_call 22; refine (HS.out _).mono ?_; rintro e w' ⟨rfl, rfl⟩))
              go_ret
              exact ⟨ret_int H.out.symm, rfl⟩
            · have e6 : (sgT t b == -1) = false := by simpa using h6
              have H : Hid (trT t 109 a b = 0) := (if_neg (by omega)).trans ((if_neg h3).trans (if_neg (fun h => h6 h.2.2)))
              clear h1 h2 h3 h5 h6
              go_enter Tryd.func42, Tryd.ntmps42
              go_wp2_with (first | (go_at_call 47; refine (HL.out _).mono ?_; rintro e w' ⟨rfl, rfl⟩) | (go_at_call 22; refine (HS.out _).mono ?_; rintro e w' ⟨rfl, rfl⟩))
              go_ret
              exact ⟨ret_int H.out.symm, rfl⟩
          · have e5 : (a == leT t) = false := by simpa using h5
            have H : Hid (trT t 109 a b = 0) := (if_neg (by omega)).trans ((if_neg h3).trans (if_neg (fun h => h5 h.2.1)))
            clear h1 h2 h3 h5
            go_enter Tryd.func42, Tryd.ntmps42
            go_wp2_with (first | (go_at_call 47; refine (HL.out _).mono ?_; rintro e w' ⟨rfl, rfl⟩) | (go_at_call 22; refine (HS.out _).mono ?_; rintro e w' ⟨rfl, rfl⟩))
            go_ret
            exact ⟨ret_int H.out.symm, rfl⟩
        · have e4 : (l == 109) = false := by simpa using h4
          have H : Hid (trT t l a b = 0) := (if_neg (by omega)).trans ((if_neg h3).trans (if_neg (fun h => h4 h.1)))
          clear h1 h2 h3 h4
          go_enter Tryd.func42, Tryd.ntmps42
          go_wp2
          go_ret
          exact ⟨ret_int H.out.symm, rfl⟩
end Go.Proofs.YtoclfldmkipokaaDoor.Ints
