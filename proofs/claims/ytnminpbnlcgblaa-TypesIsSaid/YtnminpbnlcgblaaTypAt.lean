/- The byte at a place, and a value's type there: by the program and by the document. -/
import Derived.Test.YtnminpbnlcgblaaTypBase
namespace Go.Proofs.Ytnminpbnlcgblaa.Typ
open Go.RowKit
set_option maxRecDepth 100000
set_option maxHeartbeats 1000000

/-- The byte at a place, and the error. -/
def bt (l : List Int) (at_ : Int) : Int × Int := if at_ < 0 ∨ (l.length : Int) < at_ then (0, 1) else if at_ = (l.length : Int) then (0, 2) else (l.getD at_.toNat 0, 0)
theorem bt_bad {l : List Int} {at_ : Int} (h : at_ < 0 ∨ (l.length : Int) < at_) : bt l at_ = (0, 1) := if_pos h
theorem bt_end {l : List Int} {at_ : Int} (h : at_ = (l.length : Int)) : bt l at_ = (0, 2) := (if_neg (by omega)).trans (if_pos h)
theorem bt_in {l : List Int} {k : Nat} (h : k < l.length) : bt l (k : Int) = (l.getD k 0, 0) := by
  unfold bt
  rw [if_neg (by omega), if_neg (by omega), Int.toNat_natCast]
/-- A byte and an error are told; nothing is turned. -/
def BtTold (x : Int × Int) (w : World) (e : Ending) (w' : World) : Prop := e = .returned (.tuple #[.int .u8 x.1, .int .i64 x.2]) ∧ w = w'
theorem byteAt_any (v : Value) (l : List Int) (at_ : Int) (w : World) (hv : Sl w v l) (_hl : l.length ≤ 9223372036854775806) : Calls Try.prog 27 #[v, .int .i64 at_] w (BtTold (bt l at_) w) := by
  obtain ⟨A, c, rfl, h2, h3, h4⟩ := hv
  by_cases ha : at_ < 0
  · rw [bt_bad (.inl ha)]
    have t0 : decide (at_ < 0) = true := decide_eq_true ha
    clear h4
    go_enter Try.func27, Try.ntmps27
    go_wp2
    go_ret2
    exact ⟨rfl, rfl⟩
  · have t0 : decide (at_ < 0) = false := decide_eq_false ha
    by_cases hb : (l.length : Int) < at_
    · rw [bt_bad (.inr hb)]
      have t1 : decide ((l.length : Int) < at_) = true := decide_eq_true hb
      clear h4
      go_enter Try.func27, Try.ntmps27
      go_wp2
      go_ret2
      exact ⟨rfl, rfl⟩
    · have t1 : decide ((l.length : Int) < at_) = false := decide_eq_false hb
      by_cases hc : at_ = (l.length : Int)
      · subst hc
        rw [bt_end rfl]
        clear h4 ha hb
        go_enter Try.func27, Try.ntmps27
        go_wp2
        go_ret2
        exact ⟨rfl, rfl⟩
      · obtain ⟨k, rfl⟩ := Int.eq_ofNat_of_zero_le (show 0 ≤ at_ by omega)
        have hk : k < l.length := by omega
        have t2 : ((k : Int) == (l.length : Int)) = false := by simp; omega
        obtain ⟨g, off, rfl, hB⟩ := h4 (fun e => by rw [e] at hk; simp at hk)
        have hcell := hB.2.2 k hk
        rw [bt_in hk]
        generalize l.getD k 0 = y at *
        clear hB ha hb hc h4
        go_enter Try.func27, Try.ntmps27
        go_wp2
        go_ret2
        exact ⟨rfl, rfl⟩
theorem one_any (v : Value) (l : List Int) (at_ : Int) (w : World) (hv : Sl w v l) (_hl : l.length ≤ 9223372036854775806) : Calls Try.prog 29 #[v, .int .i64 at_] w (BtTold (bt l at_) w) := by
  obtain ⟨A, c, rfl, h2, h3, h4⟩ := hv
  by_cases ha : at_ < 0
  · rw [bt_bad (.inl ha)]
    have t0 : decide (at_ < 0) = true := decide_eq_true ha
    clear h4
    go_enter Try.func29, Try.ntmps29
    go_wp2
    go_ret2
    exact ⟨rfl, rfl⟩
  · have t0 : decide (at_ < 0) = false := decide_eq_false ha
    by_cases hb : (l.length : Int) < at_
    · rw [bt_bad (.inr hb)]
      have t1 : decide ((l.length : Int) < at_) = true := decide_eq_true hb
      clear h4
      go_enter Try.func29, Try.ntmps29
      go_wp2
      go_ret2
      exact ⟨rfl, rfl⟩
    · have t1 : decide ((l.length : Int) < at_) = false := decide_eq_false hb
      by_cases hc : at_ = (l.length : Int)
      · subst hc
        rw [bt_end rfl]
        clear h4 ha hb
        go_enter Try.func29, Try.ntmps29
        go_wp2
        go_ret2
        exact ⟨rfl, rfl⟩
      · obtain ⟨k, rfl⟩ := Int.eq_ofNat_of_zero_le (show 0 ≤ at_ by omega)
        have hk : k < l.length := by omega
        have t2 : ((k : Int) == (l.length : Int)) = false := by simp; omega
        obtain ⟨g, off, rfl, hB⟩ := h4 (fun e => by rw [e] at hk; simp at hk)
        have hcell := hB.2.2 k hk
        rw [bt_in hk]
        generalize l.getD k 0 = y at *
        clear hB ha hb hc h4
        go_enter Try.func29, Try.ntmps29
        go_wp2
        go_ret2
        exact ⟨rfl, rfl⟩
/-- Is a byte a value's type? -/
def isV (c : Int) : Bool := decide (c = 127 ∨ c = 126)
theorem isV_yes {c : Int} (h : c = 127 ∨ c = 126) : isV c = true := decide_eq_true h
theorem isV_no {c : Int} (h : ¬ (c = 127 ∨ c = 126)) : isV c = false := decide_eq_false h
theorem isVal_any (c : Int) (w : World) : Calls Try.prog 28 #[.int .u8 c] w fun e w' => e = .returned (.bool (isV c)) ∧ w = w' := by
  by_cases h1 : c = 127
  · subst h1
    go_enter Try.func28, Try.ntmps28
    go_wp2
    go_ret
    exact ⟨rfl, rfl⟩
  · have t1 : (c == 127) = false := by simpa using h1
    by_cases h2 : c = 126
    · subst h2
      go_enter Try.func28, Try.ntmps28
      go_wp2
      go_ret
      exact ⟨rfl, rfl⟩
    · have t2 : (c == 126) = false := by simpa using h2
      have H := Lib.hid (isV_no (c := c) (by omega))
      clear h1 h2
      go_enter Try.func28, Try.ntmps28
      go_wp2
      go_ret
      rw [H.out]
      exact ⟨rfl, rfl⟩
/-- A value's type at a place. -/
def vl (l : List Int) (at_ : Int) : Int × Int × Int := if (bt l at_).2 ≠ 0 then (0, 0, (bt l at_).2) else bif isV (bt l at_).1 then ((bt l at_).1, at_ + 1, 0) else (0, 0, 3)
theorem vl_err {l : List Int} {at_ : Int} (h : (bt l at_).2 ≠ 0) : vl l at_ = (0, 0, (bt l at_).2) := if_pos h
theorem vl_in {l : List Int} {k : Nat} (h : k < l.length) : vl l (k : Int) = bif isV (l.getD k 0) then (l.getD k 0, (k : Int) + 1, 0) else (0, 0, 3) := by
  unfold vl
  rw [bt_in h]
  exact if_neg (by simp)
def VlTold (x : Int × Int × Int) (w : World) (e : Ending) (w' : World) : Prop := e = .returned (.tuple #[.int .u8 x.1, .int .i64 x.2.1, .int .i64 x.2.2]) ∧ w = w'
theorem bt_ways (l : List Int) (at_ : Int) : ((bt l at_).1 = 0 ∧ ((bt l at_).2 = 1 ∨ (bt l at_).2 = 2)) ∨ (∃ k : Nat, at_ = (k : Int) ∧ k < l.length ∧ bt l at_ = (l.getD k 0, 0)) := by
  by_cases h1 : at_ < 0 ∨ (l.length : Int) < at_
  · rw [bt_bad h1]; exact .inl ⟨rfl, .inl rfl⟩
  · by_cases h2 : at_ = (l.length : Int)
    · rw [bt_end h2]; exact .inl ⟨rfl, .inr rfl⟩
    · obtain ⟨k, rfl⟩ := Int.eq_ofNat_of_zero_le (show 0 ≤ at_ by omega)
      exact .inr ⟨k, rfl, by omega, bt_in (by omega)⟩
theorem val_any (v : Value) (l : List Int) (at_ : Int) (w : World) (hv : Sl w v l) (hl : l.length ≤ 1000000) : Calls Try.prog 11 #[v, .int .i64 at_] w (VlTold (vl l at_) w) := by
  have HB := Lib.hid (byteAt_any v l at_ w hv (by omega))
  rcases bt_ways l at_ with ⟨_, h⟩ | ⟨k, rfl, hk, hb⟩
  · have hx := vl_err (l := l) (at_ := at_) (by omega)
    rw [hx]
    generalize hE : (bt l at_).2 = E at *
    have HE := Lib.hid hE
    have t1 : (E != 0) = true := by have : E ≠ 0 := by omega
                                    simpa using this
    clear hE hx h hv hl
    go_enter Try.func11, Try.ntmps11
    go_wp2_with fail
    refine HB.out.mono ?_
    rintro e w1 ⟨rfl, rfl⟩
    rw [HE.out]
    go_wp2_with fail
    go_ret3
    exact ⟨rfl, rfl⟩
  · rw [vl_in hk]
    rw [hb] at HB
    have hw : IntKind.i64.wrap ((k : Int) + 1) = (k : Int) + 1 := IntWalk.i64_in _ (by omega)
    revert HB
    generalize l.getD k 0 = c
    intro HB
    cases hc : isV c with
    | true =>
      have HV := Lib.hid (isVal_any c w)
      rw [hc] at HV
      clear hb hc hv
      go_enter Try.func11, Try.ntmps11
      go_wp2_with fail
      refine HB.out.mono ?_
      rintro e w1 ⟨rfl, rfl⟩
      go_wp2_with fail
      refine HV.out.mono ?_
      rintro e w2 ⟨rfl, rfl⟩
      go_wp2_with fail
      go_ret3
      exact ⟨rfl, rfl⟩
    | false =>
      have HV := Lib.hid (isVal_any c w)
      rw [hc] at HV
      clear hb hc hv
      go_enter Try.func11, Try.ntmps11
      go_wp2_with fail
      refine HB.out.mono ?_
      rintro e w1 ⟨rfl, rfl⟩
      go_wp2_with fail
      refine HV.out.mono ?_
      rintro e w2 ⟨rfl, rfl⟩
      go_wp2_with fail
      go_ret3
      exact ⟨rfl, rfl⟩
theorem rval_any (v : Value) (l : List Int) (at_ : Int) (w : World) (hv : Sl w v l) (hl : l.length ≤ 1000000) : Calls Try.prog 12 #[v, .int .i64 at_] w (VlTold (vl l at_) w) := by
  have HB := Lib.hid (one_any v l at_ w hv (by omega))
  rcases bt_ways l at_ with ⟨_, h⟩ | ⟨k, rfl, hk, hb⟩
  · have hx := vl_err (l := l) (at_ := at_) (by omega)
    rw [hx]
    generalize hE : (bt l at_).2 = E at *
    have HE := Lib.hid hE
    have t1 : (E != 0) = true := by have : E ≠ 0 := by omega
                                    simpa using this
    clear hE hx h hv hl
    go_enter Try.func12, Try.ntmps12
    go_wp2_with fail
    refine HB.out.mono ?_
    rintro e w1 ⟨rfl, rfl⟩
    rw [HE.out]
    go_wp2_with fail
    go_ret3
    exact ⟨rfl, rfl⟩
  · rw [vl_in hk]
    rw [hb] at HB
    have hw : IntKind.i64.wrap ((k : Int) + 1) = (k : Int) + 1 := IntWalk.i64_in _ (by omega)
    revert HB
    generalize l.getD k 0 = c
    intro HB
    clear hb hv
    by_cases h1 : c = 126
    · subst h1
      go_enter Try.func12, Try.ntmps12
      go_wp2_with fail
      refine HB.out.mono ?_
      rintro e w1 ⟨rfl, rfl⟩
      go_wp2_with fail
      go_ret3
      exact ⟨rfl, rfl⟩
    · by_cases h2 : c = 127
      · subst h2
        go_enter Try.func12, Try.ntmps12
        go_wp2_with fail
        refine HB.out.mono ?_
        rintro e w1 ⟨rfl, rfl⟩
        go_wp2_with fail
        go_ret3
        exact ⟨rfl, rfl⟩
      · have HI := Lib.hid (isV_no (c := c) (by omega))
        have t1 : (c != 126) = true := by simpa using h1
        have t2 : (c != 127) = true := by simpa using h2
        clear h1 h2
        go_enter Try.func12, Try.ntmps12
        go_wp2_with fail
        refine HB.out.mono ?_
        rintro e w1 ⟨rfl, rfl⟩
        go_wp2_with fail
        go_ret3
        rw [HI.out]
        exact ⟨rfl, rfl⟩
end Go.Proofs.Ytnminpbnlcgblaa.Typ
