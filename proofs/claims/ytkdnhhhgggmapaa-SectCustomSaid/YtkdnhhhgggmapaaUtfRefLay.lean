/- The document's bytes of a number, walked. -/
import Derived.Test.YtkdnhhhgggmapaaChecked
import Derived.Test.YtkdnhhhgggmapaaUtfSpec
import Derived.WalkKit
import Derived.WalkSpells
import Derived.OwnWalk
namespace Go.Proofs.Ytkdnhhhgggmapaa.Utf
open Go.RowKit
set_option maxRecDepth 100000
set_option maxHeartbeats 400000

/-- Bytes as cells; a new row of them. -/
def vb (l : List Int) : List Value := l.map (Value.int .u8)
def newB (w : World) (l : List Int) : World := w.alloc (.cells (vb l).toArray 5)
theorem rlay_bad (v : Int) (w : World) (h : ¬ okR v) : Calls Try.prog 51 #[.int .i64 v] w fun e w' => e = .returned (.slice none 0 0) ∧ w = w' := by
  have hc : v < 0 ∨ 1114111 < v ∨ (55296 ≤ v ∧ v ≤ 57343) := by unfold okR at h; omega
  clear h
  rcases hc with h | h | ⟨h, h'⟩
  · go_enter Try.func51, Try.ntmps51
    go_wp2
    go_ret
    exact ⟨rfl, rfl⟩
  · have d0 : decide (v < 0) = false := by simp; omega
    go_enter Try.func51, Try.ntmps51
    go_wp2
    go_ret
    exact ⟨rfl, rfl⟩
  · have d0 : decide (v < 0) = false := by simp; omega
    have d1 : decide (1114111 < v) = false := by simp; omega
    go_enter Try.func51, Try.ntmps51
    go_wp2
    go_ret
    exact ⟨rfl, rfl⟩
theorem rlay_ok (v : Int) (w : World) (h : okR v) : Calls Try.prog 51 #[.int .i64 v] w fun e w' => e = .returned (.slice (some ⟨w.heap.size, 0, none⟩) (enc v).length (enc v).length) ∧ newB w (enc v) = w' := by
  obtain ⟨h0, h1, h2⟩ := h
  have d0 : decide (v < 0) = false := by simp; omega
  have d1 : decide (1114111 < v) = false := by simp; omega
  by_cases hs : 55296 ≤ v
  · have d3 : decide (v ≤ 57343) = false := by simp; omega
    have g0 : decide (v < 128) = false := by simp; omega
    have g1 : decide (v < 2048) = false := by simp; omega
    by_cases h6 : v < 65536
    · have H := Lib.hid (enc3 (v := v) (by omega) h6)
      clear h2
      go_enter Try.func51, Try.ntmps51
      go_wp2
      go_ret
      rw [H.out]
      exact ⟨rfl, rfl⟩
    · have H := Lib.hid (enc4 (v := v) (by omega))
      have g2 : decide (v < 65536) = false := by simp; omega
      clear h2 h6
      go_enter Try.func51, Try.ntmps51
      go_wp2
      go_ret
      rw [H.out]
      exact ⟨rfl, rfl⟩
  · have d2 : decide (55296 ≤ v) = false := by simp; omega
    by_cases h7 : v < 128
    · have H := Lib.hid (enc1 (v := v) h7)
      clear h2 hs
      go_enter Try.func51, Try.ntmps51
      go_wp2
      go_ret
      rw [H.out]
      exact ⟨rfl, rfl⟩
    · have g0 : decide (v < 128) = false := by simp; omega
      by_cases h8 : v < 2048
      · have H := Lib.hid (enc2 (v := v) (by omega) h8)
        clear h2 hs h7
        go_enter Try.func51, Try.ntmps51
        go_wp2
        go_ret
        rw [H.out]
        exact ⟨rfl, rfl⟩
      · have g1 : decide (v < 2048) = false := by simp; omega
        have h6 : v < 65536 := by omega
        have H := Lib.hid (enc3 (v := v) (by omega) h6)
        clear h2 hs h7 h8
        go_enter Try.func51, Try.ntmps51
        go_wp2
        go_ret
        rw [H.out]
        exact ⟨rfl, rfl⟩
end Go.Proofs.Ytkdnhhhgggmapaa.Utf
