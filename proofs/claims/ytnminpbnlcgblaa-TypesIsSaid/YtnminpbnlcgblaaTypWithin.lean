/- Whether limits keep to others: by the program and by the document. -/
import Derived.Test.YtnminpbnlcgblaaTypFunc
namespace Go.Proofs.Ytnminpbnlcgblaa.Typ
open Go.RowKit
set_option maxRecDepth 100000
set_option maxHeartbeats 1000000

/-- Limits as a value. -/
def lv (a b : Int) (h : Bool) : Value := .agg #[.int .i64 a, .int .i64 b, .bool h]
/-- Do limits keep to others? -/
def wi (a0 a1 : Int) (ha : Bool) (b0 b1 : Int) (hb : Bool) : Bool := bif decide (b0 ≤ a0) then (bif hb then (bif ha then decide (a1 ≤ b1) else false) else true) else false
theorem rwithin_any (a0 a1 b0 b1 : Int) (ha hb : Bool) (w : World) : Calls Try.prog 26 #[lv a0 a1 ha, lv b0 b1 hb] w fun e w' => e = .returned (.bool (wi a0 a1 ha b0 b1 hb)) ∧ Below w.heap.size w w' := by
  unfold lv wi
  cases h0 : decide (b0 ≤ a0) with
  | false =>
    go_enter Try.func26, Try.ntmps26
    go_wp2_with fail
    go_ret
    exact ⟨rfl, by repeat (first | exact Below.refl _ _ | refine Below.alloc ?_ (by simp) _)⟩
  | true =>
    cases hb with
    | false =>
      go_enter Try.func26, Try.ntmps26
      go_wp2_with fail
      go_ret
      exact ⟨rfl, by repeat (first | exact Below.refl _ _ | refine Below.alloc ?_ (by simp) _)⟩
    | true =>
      cases ha with
      | false =>
        go_enter Try.func26, Try.ntmps26
        go_wp2_with fail
        go_ret
        exact ⟨rfl, by repeat (first | exact Below.refl _ _ | refine Below.alloc ?_ (by simp) _)⟩
      | true =>
        cases h1 : decide (a1 ≤ b1) with
        | false =>
          go_enter Try.func26, Try.ntmps26
          go_wp2_with fail
          go_ret
          exact ⟨rfl, by repeat (first | exact Below.refl _ _ | refine Below.alloc ?_ (by simp) _)⟩
        | true =>
          go_enter Try.func26, Try.ntmps26
          go_wp2_with fail
          go_ret
          exact ⟨rfl, by repeat (first | exact Below.refl _ _ | refine Below.alloc ?_ (by simp) _)⟩
/-- What limits are drawn to. -/
def NarTold (x : Value) (w : World) (e : Ending) (w' : World) : Prop := e = .returned x ∧ Below w.heap.size w w'
def mn (a0 b0 : Int) : Int := bif decide (b0 ≤ a0) then a0 else b0
def nar (a0 a1 : Int) (ha : Bool) (b0 b1 : Int) (hb : Bool) : Value := bif hb then (bif ha then (bif decide (a1 ≤ b1) then lv (mn a0 b0) a1 true else lv (mn a0 b0) b1 true) else lv (mn a0 b0) b1 true) else lv (mn a0 b0) a1 ha
theorem nar_any (a0 a1 b0 b1 : Int) (ha hb : Bool) (w : World) : Calls Try.prog 42 #[lv a0 a1 ha, lv b0 b1 hb] w (NarTold (nar a0 a1 ha b0 b1 hb) w) := by
  unfold nar mn lv
  by_cases h0 : b0 ≤ a0
  · rw [decide_eq_true h0]
    dsimp only [cond]
    cases hb with
    | false =>
      go_enter Try.func42, Try.ntmps42
      go_wp2_with fail
      refine bodyPost_ret (v := .agg #[.int .i64 a0, .int .i64 a1, .bool ha]) (by simp [results, Try.results42, go_sem]) rfl ⟨rfl, ?_⟩
      repeat (first | exact Below.refl _ _ | refine Below.setCell ?_ (by first | (simp; done) | (simp; omega)) _ | refine Below.alloc ?_ (by first | (simp; done) | (simp; omega)) _)
    | true =>
      cases ha with
      | false =>
        go_enter Try.func42, Try.ntmps42
        go_wp2_with fail
        refine bodyPost_ret (v := .agg #[.int .i64 a0, .int .i64 b1, .bool true]) (by simp [results, Try.results42, go_sem]) rfl ⟨rfl, ?_⟩
        repeat (first | exact Below.refl _ _ | refine Below.setCell ?_ (by first | (simp; done) | (simp; omega)) _ | refine Below.alloc ?_ (by first | (simp; done) | (simp; omega)) _)
      | true =>
        by_cases h1 : a1 ≤ b1
        · rw [decide_eq_true h1]
          have t1 : decide (b1 < a1) = false := by simp; omega
          clear h1
          go_enter Try.func42, Try.ntmps42
          go_wp2_with fail
          refine bodyPost_ret (v := .agg #[.int .i64 a0, .int .i64 a1, .bool true]) (by simp [results, Try.results42, go_sem]) rfl ⟨rfl, ?_⟩
          repeat (first | exact Below.refl _ _ | refine Below.setCell ?_ (by first | (simp; done) | (simp; omega)) _ | refine Below.alloc ?_ (by first | (simp; done) | (simp; omega)) _)
        · rw [decide_eq_false h1]
          have t1 : decide (b1 < a1) = true := by simp; omega
          clear h1
          go_enter Try.func42, Try.ntmps42
          go_wp2_with fail
          refine bodyPost_ret (v := .agg #[.int .i64 a0, .int .i64 b1, .bool true]) (by simp [results, Try.results42, go_sem]) rfl ⟨rfl, ?_⟩
          repeat (first | exact Below.refl _ _ | refine Below.setCell ?_ (by first | (simp; done) | (simp; omega)) _ | refine Below.alloc ?_ (by first | (simp; done) | (simp; omega)) _)
  · rw [decide_eq_false h0]
    dsimp only [cond]
    have h2 : a0 ≤ b0 := by omega
    cases hb with
    | false =>
      go_enter Try.func42, Try.ntmps42
      go_wp2_with fail
      refine bodyPost_ret (v := .agg #[.int .i64 b0, .int .i64 a1, .bool ha]) (by simp [results, Try.results42, go_sem]) rfl ⟨rfl, ?_⟩
      repeat (first | exact Below.refl _ _ | refine Below.setCell ?_ (by first | (simp; done) | (simp; omega)) _ | refine Below.alloc ?_ (by first | (simp; done) | (simp; omega)) _)
    | true =>
      cases ha with
      | false =>
        go_enter Try.func42, Try.ntmps42
        go_wp2_with fail
        refine bodyPost_ret (v := .agg #[.int .i64 b0, .int .i64 b1, .bool true]) (by simp [results, Try.results42, go_sem]) rfl ⟨rfl, ?_⟩
        repeat (first | exact Below.refl _ _ | refine Below.setCell ?_ (by first | (simp; done) | (simp; omega)) _ | refine Below.alloc ?_ (by first | (simp; done) | (simp; omega)) _)
      | true =>
        by_cases h1 : a1 ≤ b1
        · rw [decide_eq_true h1]
          have t1 : decide (b1 < a1) = false := by simp; omega
          clear h1
          go_enter Try.func42, Try.ntmps42
          go_wp2_with fail
          refine bodyPost_ret (v := .agg #[.int .i64 b0, .int .i64 a1, .bool true]) (by simp [results, Try.results42, go_sem]) rfl ⟨rfl, ?_⟩
          repeat (first | exact Below.refl _ _ | refine Below.setCell ?_ (by first | (simp; done) | (simp; omega)) _ | refine Below.alloc ?_ (by first | (simp; done) | (simp; omega)) _)
        · rw [decide_eq_false h1]
          have t1 : decide (b1 < a1) = true := by simp; omega
          clear h1
          go_enter Try.func42, Try.ntmps42
          go_wp2_with fail
          refine bodyPost_ret (v := .agg #[.int .i64 b0, .int .i64 b1, .bool true]) (by simp [results, Try.results42, go_sem]) rfl ⟨rfl, ?_⟩
          repeat (first | exact Below.refl _ _ | refine Below.setCell ?_ (by first | (simp; done) | (simp; omega)) _ | refine Below.alloc ?_ (by first | (simp; done) | (simp; omega)) _)
end Go.Proofs.Ytnminpbnlcgblaa.Typ
