/- IntsValues walked: whether any number is a value, its signed number, and any number's value, are what the document says. -/
import Derived.Test.YtoclfldmkipokaaDoorIntsLaid
namespace Go.Proofs.YtoclfldmkipokaaDoor.Ints
open Go.RowKit
set_option maxRecDepth 100000
set_option maxHeartbeats 400000

theorem rfits_any (t v : Int) (w : World) : Calls Tryd.prog 21 #[.int .u8 t, .int .u64 v] w fun e w' => e = .returned (.bool (fitT t v)) ∧ w = w' := by
  by_cases h6 : t = 126
  · subst h6
    have H : Hid (fitT 126 v = true) := by show _ = _; simp [fitT]
    go_enter Tryd.func21, Tryd.ntmps21
    go_wp2
    go_ret
    exact ⟨ret_bool H.out.symm, rfl⟩
  · have hb : (t == 126) = false := by simpa using h6
    by_cases h7 : t = 127
    · subst h7
      by_cases hf : v < 4294967296
      · have H : Hid (fitT 127 v = true) := by show _ = _; simp [fitT, hf]
        clear h6
        go_enter Tryd.func21, Tryd.ntmps21
        go_wp2
        go_ret
        exact ⟨ret_bool H.out.symm, rfl⟩
      · have H : Hid (fitT 127 v = false) := by show _ = _; simp [fitT]; omega
        have hd : decide (v < 4294967296) = false := by simpa using hf
        clear h6 hf
        go_enter Tryd.func21, Tryd.ntmps21
        go_wp2
        go_ret
        exact ⟨ret_bool H.out.symm, rfl⟩
    · have H : Hid (fitT t v = false) := by show _ = _; simp [fitT, h6, h7]
      have hb7 : (t == 127) = false := by simpa using h7
      clear h6 h7
      go_enter Tryd.func21, Tryd.ntmps21
      go_wp2
      go_ret
      exact ⟨ret_bool H.out.symm, rfl⟩
theorem rsigned_any (t v : Int) (w : World) (hv : u64R v) : Calls Tryd.prog 23 #[.int .u8 t, .int .u64 v] w fun e w' => e = .returned (.int .i64 (sgT t v)) ∧ w = w' := by
  by_cases h7 : t = 127
  · subst h7
    have HL := Lib.hid (fun W => low_32 v W hv.1)
    have HS := Lib.hid (fun W => signed_32 (v % 4294967296) W (by omega) (by omega))
    have HV : Hid (sg32 (v % 4294967296) = sgT 127 v) := rfl
    clear hv
    go_enter Tryd.func23, Tryd.ntmps23
    go_wp2_with fail
    refine (HL.out _).mono ?_
    rintro e w' ⟨rfl, rfl⟩
    go_wp2_with fail
    refine (HS.out _).mono ?_
    rintro e w' ⟨rfl, rfl⟩
    go_wp2_with fail
    go_ret
    exact ⟨ret_int HV.out, rfl⟩
  · have hb7 : (t == 127) = false := by simpa using h7
    have HV : Hid (wrap64 v = sgT t v) := (wrap64_sg hv.1 hv.2).trans (if_neg h7).symm
    clear hv h7
    go_enter Tryd.func23, Tryd.ntmps23
    go_wp2
    go_ret
    exact ⟨ret_int HV.out, rfl⟩
theorem rvalue_any (t n : Int) (w : World) : Calls Tryd.prog 25 #[.int .u8 t, .int .i64 n] w fun e w' => e = .returned (.int .u64 (vaT t n)) ∧ w = w' := by
  by_cases h7 : t = 127
  · subst h7
    have HL := Lib.hid (fun W => low_32 (IntKind.u64.wrap n) W (by rw [IntKind.wrap_u64]; omega))
    have HV : Hid (IntKind.u64.wrap n % 4294967296 = vaT 127 n) := by
      show IntKind.u64.wrap n % 4294967296 = n % 4294967296
      rw [IntKind.wrap_u64]; omega
    go_enter Tryd.func25, Tryd.ntmps25
    go_wp2_with fail
    refine (HL.out _).mono ?_
    rintro e w' ⟨rfl, rfl⟩
    go_wp2_with fail
    go_ret
    exact ⟨ret_int HV.out, rfl⟩
  · have hb7 : (t == 127) = false := by simpa using h7
    have HV : Hid (IntKind.u64.wrap n = vaT t n) := (IntKind.wrap_u64 n).trans (if_neg h7).symm
    clear h7
    go_enter Tryd.func25, Tryd.ntmps25
    go_wp2
    go_ret
    exact ⟨ret_int HV.out, rfl⟩
theorem values_any (t v n : Int) (wv : (Lit.int .u64 v).wf = true) (w : World) (hT : Tab w) :
    Calls Tryd.prog 5 #[.int .u8 t, .int .u64 v, .int .i64 n] w fun e w' => e = .returned (.bool true) ∧ Below w.heap.size w w' := by
  have hv := u64_of wv
  have HA := Lib.hid awake_any
  have H1 := Lib.hid (fun W => fits_any t v W hv)
  have H2 := Lib.hid (fun W => rfits_any t v W)
  have H3 := Lib.hid (fun W => sgn_any t v W hv)
  have H4 := Lib.hid (fun W => rsigned_any t v W hv)
  have H5 := Lib.hid (fun W => value_any t n W)
  have H6 := Lib.hid (fun W => rvalue_any t n W)
  have HT := Lib.hid hT
  clear hT hv
  go_enter Tryd.func5, Tryd.ntmps5
  go_wp2_with fail
  refine (HA.out _ HT.out).mono ?_
  rintro e w1 ⟨rfl, b1⟩
  go_wp2_with fail
  refine (H1.out _).mono ?_
  rintro e w' ⟨rfl, rfl⟩
  go_wp2_with fail
  refine (H2.out _).mono ?_
  rintro e w' ⟨rfl, rfl⟩
  go_wp2_with fail
  refine (H3.out _).mono ?_
  rintro e w' ⟨rfl, rfl⟩
  go_wp2_with fail
  refine (H4.out _).mono ?_
  rintro e w' ⟨rfl, rfl⟩
  go_wp2_with fail
  refine (H5.out _).mono ?_
  rintro e w' ⟨rfl, rfl⟩
  go_wp2_with fail
  refine (H6.out _).mono ?_
  rintro e w' ⟨rfl, rfl⟩
  go_wp2_with fail
  go_ret
  exact ⟨rfl, b1⟩
end Go.Proofs.YtoclfldmkipokaaDoor.Ints
