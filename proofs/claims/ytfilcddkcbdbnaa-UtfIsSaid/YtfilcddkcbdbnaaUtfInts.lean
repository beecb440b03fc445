/- The document's 'are numbers the same', walked; what Runes and Valid tell, in one word; a text of no bytes. -/
import Derived.Test.YtfilcddkcbdbnaaUtfRunes
import Derived.Deep.QuietTactic
import Derived.BigQuiet
namespace Go.Proofs.Ytfilcddkcbdbnaa.Utf
open Go.RowKit
set_option maxRecDepth 100000
set_option maxHeartbeats 400000

theorem ret_bool {a b : Bool} (h : a = b) : Ending.returned (.bool a) = .returned (.bool b) := by rw [h]
/-- The world as it was, but for what was drawn. -/
def Still (W w' : World) : Prop := ∃ n, w' = W.drewN n
theorem Still.same {W : World} : Still W W := ⟨0, rfl⟩
theorem Still.more {W w' : World} (h : Still W w') (n : Nat) : Still W (w'.drewN n) := by
  obtain ⟨m, rfl⟩ := h
  exact ⟨m + n, by rw [World.drewN_drewN]⟩
theorem Still.cell {W w' : World} (h : Still W w') (p : Addr) : w'.cell? p = W.cell? p := by
  obtain ⟨m, rfl⟩ := h
  simp
theorem Still.below {w w' : World} (h : Still w w') : Below w.heap.size w w' := by
  obtain ⟨n, rfl⟩ := h
  exact ⟨rfl, rfl, rfl, Nat.le_refl _, fun _ _ => rfl⟩
/-- Whole numbers at an address. -/
def IntAt (w : World) (g off : Nat) (l : List Int) : Prop := ∀ j, j < l.length → w.cell? ⟨g, off + j, none⟩ = some (.int .i64 (l.getD j 0))
theorem ints_far (A B : Option Addr) (a b : List Int) (ca cb : Nat) (w : World) (h : a.length ≠ b.length) : Calls Try.prog 20 #[.slice A a.length ca, .slice B b.length cb] w fun e w' => e = .returned (.bool (decide (a = b))) ∧ Still w w' := by
  have H : Hid (decide (a = b) = false) := by show _ = _; simp; intro e; exact h (by rw [e])
  have hb : ((a.length : Int) == (b.length : Int)) = false := by simp; omega
  have hb' : ((a.length : Int) != (b.length : Int)) = true := by simp; omega
  have hb2 : (a.length == b.length) = false := by simpa using h
  have hb3 : (a.length != b.length) = true := by simpa using h
  clear h
  go_enter Try.func20, Try.ntmps20
  go_wp2
  go_ret
  exact ⟨ret_bool H.out.symm, .same⟩
theorem eq_of_getD {a b : List Int} (hl : a.length = b.length) (h : ∀ j, j < a.length → a.getD j 0 = b.getD j 0) : a = b := by
  apply List.ext_getElem hl
  intro i h1 h2
  have := h i h1
  simpa [h1, h2] using this
theorem ints_same (g off g2 off2 : Nat) (a b : List Int) (ca cb : Nat) (w : World) (hl : a.length = b.length) (hm : a.length ≤ 9223372036854775807) (hA : IntAt w g off a) (hB : IntAt w g2 off2 b) :
    Calls Try.prog 20 #[.slice (some ⟨g, off, none⟩) a.length ca, .slice (some ⟨g2, off2, none⟩) a.length cb] w fun e w' => e = .returned (.bool (decide (a = b))) ∧ Still w w' := by
  have HA := Lib.hid hA
  have HB := Lib.hid hB
  have HL := Lib.hid hl
  clear hA hB hl
  go_enter Try.func20, Try.ntmps20
  go_wp2_with fail
  go_loopw [5] (fun i wr => ∃ k : Nat, i = .int .i64 (k : Int) ∧ k ≤ a.length ∧ (∀ j, j < k → a.getD j 0 = b.getD j 0) ∧ Still w wr) (fun i _ => a.length - (intOf i).toNat)
  case atStart => exact ⟨0, rfl, Nat.zero_le _, fun j hj => by omega, .same⟩
  case round =>
    obtain ⟨k, rfl, hk, hs, hw⟩ := hrel
    have HS := Lib.hid hs
    have HW := Lib.hid hw
    clear hs hw
    by_cases hlt : k < a.length
    · have c1 : wr.cell? ⟨g, off + k, none⟩ = some (.int .i64 (a.getD k 0)) := (HW.out.cell _).trans (HA.out k hlt)
      have c2 : wr.cell? ⟨g2, off2 + k, none⟩ = some (.int .i64 (b.getD k 0)) := (HW.out.cell _).trans (HB.out k (by rw [← HL.out]; exact hlt))
      have hk1 : (k : Int) < (a.length : Int) := by omega
      have HT := Lib.hid (fun hx : a.getD k 0 = b.getD k 0 => (fun j hj => by
        rcases Nat.lt_succ_iff_lt_or_eq.1 hj with h | rfl
        · exact HS.out j h
        · exact hx : ∀ j, j < k + 1 → a.getD j 0 = b.getD j 0))
      have HF := Lib.hid (fun hx : ¬ a.getD k 0 = b.getD k 0 => (by simp; intro e; exact hx (by rw [e]) : decide (a = b) = false))
      revert c1 c2 HT HF
      generalize a.getD k 0 = x
      generalize b.getD k 0 = y
      intro c1 c2 HT HF
      by_cases hx : x = y
      · have hb' : (x != y) = false := by simp [hx]
        have HX := Lib.hid (HT.out hx)
        clear hx
        go_wp2_with fail
        go_quiet (fail)
        go_wp2_with fail
        go_roundw
        case rel => exact ⟨k + 1, by go_num, by omega, HX.out, HW.out.more _⟩
        case measure => simp [intOf]; omega
      · have hb' : (x != y) = true := by simpa using hx
        have HX := Lib.hid (HF.out hx)
        clear hx
        go_wp2_with fail
        go_quiet (fail)
        go_wp2_with fail
        go_ret
        exact ⟨ret_bool HX.out.symm, HW.out.more _⟩
    · obtain rfl : k = a.length := by omega
      have H : Hid (decide (a = b) = true) := decide_eq_true (eq_of_getD HL.out HS.out)
      go_wp2_with fail
      go_ret
      exact ⟨ret_bool H.out.symm, HW.out⟩
end Go.Proofs.Ytfilcddkcbdbnaa.Utf
