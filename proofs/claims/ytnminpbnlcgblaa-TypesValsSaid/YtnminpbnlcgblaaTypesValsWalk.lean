/- TypesVals walked: of all bytes two are values' types. -/
import Derived.Test.YtnminpbnlcgblaaTypAwake
import Derived.Test.YtnminpbnlcgblaaTypPutR
namespace Go.Proofs.Ytnminpbnlcgblaa.Typ
open Go.RowKit
set_option maxRecDepth 100000
set_option maxHeartbeats 2000000

theorem vals_big (A : Option Addr) (n c : Nat) (x : Int) (w : World) (hl : 100 < n) (hm : n ≤ 9223372036854775807) :
    Calls Try.prog 8 #[.slice A n c, .int .u8 x] w fun e w' => e = .returned (.bool true) ∧ Below w.heap.size w w' := by
  have t1 : decide ((100 : Int) < (n : Int)) = true := by simp; omega
  clear hl hm
  go_enter Try.func8, Try.ntmps8
  go_wp2_with fail
  refine (awake_any _).mono ?_
  rintro e w1 ⟨rfl, hb1⟩
  go_wp2_with fail
  go_ret
  exact ⟨rfl, hb1⟩
theorem vals_core (A : Option Addr) (c : Nat) (l L : List Int) (x : Int) (w : World) (hl : l.length ≤ 100) (hL : [] ++ l ++ [x] = L) (hA : Leb.Byt w w.heap.size A l)
    (h1 : ∀ W B v, Leb.Own W B v L → Calls Try.prog 11 #[v, .int .i64 (l.length : Int)] W (VlTold (bif isV x then (x, (l.length : Int) + 1, 0) else (0, 0, 3)) W))
    (h2 : ∀ W B v, Leb.Own W B v L → Calls Try.prog 11 #[v, .int .i64 (L.length : Int)] W (VlTold (0, 0, 2) W)) :
    Calls Try.prog 8 #[.slice A l.length c, .int .u8 x] w fun e w' => e = .returned (.bool true) ∧ Below w.heap.size w w' := by
  have t1 : decide ((100 : Int) < (l.length : Int)) = false := by simp; omega
  have t5 : ((l.length : Int) + 1 == (L.length : Int)) = true := by rw [← hL]; simp
  have HL := Lib.hid hL
  clear hL
  have HA := Lib.hid hA
  have H1 := Lib.hid h1
  have H2 := Lib.hid h2
  clear hA h1 h2
  by_cases hx1 : x = 126
  · subst hx1
    rw [isV_yes (by omega)] at H1
    go_enter Try.func8, Try.ntmps8
    go_wp2_with fail
    refine (awake_any _).mono ?_
    rintro e w1 ⟨rfl, hb1⟩
    have HB1 := Lib.hid hb1
    clear hb1
    go_wp2_with (at_builtin; refine Leb.wp_bytes _ rfl (.tmp 18) (.tmp 19) rfl w1.heap.size w.heap.size _ [] l rfl (Leb.own_none w1) A c rfl (HA.out.keep (HB1.out.trans ((Below.refl _ _).alloc HB1.out.size _))) (by simp; omega) (by simp) ?_; intro v2 w2 ho2 hb2; have HO2 := Lib.hid ho2; have HB2 := Lib.hid (((Below.refl w1.heap.size w1).alloc (Nat.le_refl _) (.cells #[] 5)).trans hb2); have hs2 : w1.heap.size ≤ w2.heap.size := HB2.out.size; clear ho2 hb2; go_wp2_with (at_builtin; refine Leb.wp_byte w2 rfl (.tmp 20) (.tmp 22) rfl w1.heap.size _ ([] ++ l) 126 rfl HO2.out rfl (by simp; omega) hs2 ?_; intro v3 w3 ho3 hb3; rw [HL.out] at ho3; have HO3 := Lib.hid ho3; have HW3 := Lib.hid (HB1.out.trans ((HB2.out.trans hb3).mono HB1.out.size)); obtain ⟨⟨g3, d3, rfl⟩, _⟩ := ho3; clear hb3))
    refine (H1.out _ _ _ HO3.out).mono ?_
    rintro e w4 ⟨rfl, rfl⟩
    go_wp2_with fail
    refine (H2.out _ _ _ HO3.out).mono ?_
    rintro e w5 ⟨rfl, rfl⟩
    go_wp2_with fail
    go_ret
    exact ⟨rfl, HW3.out⟩
  · by_cases hx2 : x = 127
    · subst hx2
      rw [isV_yes (by omega)] at H1
      go_enter Try.func8, Try.ntmps8
      go_wp2_with fail
      refine (awake_any _).mono ?_
      rintro e w1 ⟨rfl, hb1⟩
      have HB1 := Lib.hid hb1
      clear hb1
      go_wp2_with (at_builtin; refine Leb.wp_bytes _ rfl (.tmp 18) (.tmp 19) rfl w1.heap.size w.heap.size _ [] l rfl (Leb.own_none w1) A c rfl (HA.out.keep (HB1.out.trans ((Below.refl _ _).alloc HB1.out.size _))) (by simp; omega) (by simp) ?_; intro v2 w2 ho2 hb2; have HO2 := Lib.hid ho2; have HB2 := Lib.hid (((Below.refl w1.heap.size w1).alloc (Nat.le_refl _) (.cells #[] 5)).trans hb2); have hs2 : w1.heap.size ≤ w2.heap.size := HB2.out.size; clear ho2 hb2; go_wp2_with (at_builtin; refine Leb.wp_byte w2 rfl (.tmp 20) (.tmp 22) rfl w1.heap.size _ ([] ++ l) 127 rfl HO2.out rfl (by simp; omega) hs2 ?_; intro v3 w3 ho3 hb3; rw [HL.out] at ho3; have HO3 := Lib.hid ho3; have HW3 := Lib.hid (HB1.out.trans ((HB2.out.trans hb3).mono HB1.out.size)); obtain ⟨⟨g3, d3, rfl⟩, _⟩ := ho3; clear hb3))
      refine (H1.out _ _ _ HO3.out).mono ?_
      rintro e w4 ⟨rfl, rfl⟩
      go_wp2_with fail
      refine (H2.out _ _ _ HO3.out).mono ?_
      rintro e w5 ⟨rfl, rfl⟩
      go_wp2_with fail
      go_ret
      exact ⟨rfl, HW3.out⟩
    · have t2 : (x != 126) = true := by simpa using hx1
      have t3 : (x != 127) = true := by simpa using hx2
      rw [isV_no (c := x) (by omega)] at H1
      clear hx1 hx2
      go_enter Try.func8, Try.ntmps8
      go_wp2_with fail
      refine (awake_any _).mono ?_
      rintro e w1 ⟨rfl, hb1⟩
      have HB1 := Lib.hid hb1
      clear hb1
      go_wp2_with (at_builtin; refine Leb.wp_bytes _ rfl (.tmp 18) (.tmp 19) rfl w1.heap.size w.heap.size _ [] l rfl (Leb.own_none w1) A c rfl (HA.out.keep (HB1.out.trans ((Below.refl _ _).alloc HB1.out.size _))) (by simp; omega) (by simp) ?_; intro v2 w2 ho2 hb2; have HO2 := Lib.hid ho2; have HB2 := Lib.hid (((Below.refl w1.heap.size w1).alloc (Nat.le_refl _) (.cells #[] 5)).trans hb2); have hs2 : w1.heap.size ≤ w2.heap.size := HB2.out.size; clear ho2 hb2; go_wp2_with (at_builtin; refine Leb.wp_byte w2 rfl (.tmp 20) (.tmp 22) rfl w1.heap.size _ ([] ++ l) x rfl HO2.out rfl (by simp; omega) hs2 ?_; intro v3 w3 ho3 hb3; rw [HL.out] at ho3; have HO3 := Lib.hid ho3; have HW3 := Lib.hid (HB1.out.trans ((HB2.out.trans hb3).mono HB1.out.size)); obtain ⟨⟨g3, d3, rfl⟩, _⟩ := ho3; clear hb3))
      refine (H1.out _ _ _ HO3.out).mono ?_
      rintro e w4 ⟨rfl, rfl⟩
      go_wp2_with fail
      go_ret
      exact ⟨rfl, HW3.out⟩
theorem vals_law (a : Option Addr) (len cap : Nat) (zs : List Int) (x : Int) (w : World) (hr : Leb.Came .u8 w a len cap zs) (hx : (Lit.int .u8 x).wf = true) :
    Calls Try.prog 8 #[.slice a len cap, .int .u8 x] w fun e w' => e = .returned (.bool true) ∧ Below w.heap.size w w' := by
  have bx := bounds_u8 hx
  obtain ⟨p1, p2, p3, _⟩ := came_parts hr
  obtain ⟨s1, b1⟩ := came_sl hr
  by_cases h : len ≤ 100
  · revert s1 b1 p1
    generalize zs.take len = l
    intro p1 s1 b1
    subst p1
    have hlen : ([] ++ l ++ [x]).length = l.length + 1 := by simp
    refine vals_core a cap l ([] ++ l ++ [x]) x w h rfl s1.leb (fun W B v ho => ?_) (fun W B v ho => ?_)
    · have := val_any v _ (l.length : Int) W (own_sl ho) (by rw [hlen]; omega)
      rwa [vl_in (by rw [hlen]; omega), show (([] ++ l ++ [x] : List Int)).getD l.length 0 = x from by simp] at this
    · have := val_any v _ ((([] ++ l ++ [x]).length : Nat) : Int) W (own_sl ho) (by rw [hlen]; omega)
      have hb : bt ([] ++ l ++ [x]) ((([] ++ l ++ [x]).length : Nat) : Int) = (0, 2) := bt_end rfl
      rwa [vl_err (by rw [hb]; decide), hb] at this
  · exact vals_big a len cap x w (by omega) (by omega)
end Go.Proofs.Ytnminpbnlcgblaa.Typ
