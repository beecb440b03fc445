/- The document's example, as every statement of layer 3 asks it first. -/
import Derived.Test.YtkdnhhhgggmapaaUtfLay
namespace Go.Proofs.Ytkdnhhhgggmapaa.Utf
open Go.RowKit
set_option maxRecDepth 100000
set_option maxHeartbeats 1000000

theorem ok_ex : okR 8364 := by decide
theorem txt_ex : Txt [226, 130, 172] [8364] := ⟨fun v hv => by rw [show v = 8364 from by simpa using hv]; exact ok_ex, by decide +kernel⟩
theorem txt_none : isT [] = true := isT_true Txt.nil
theorem txt_bad : isT [128] = false := by
  refine isT_false fun x hx => ?_
  exact dec_none (b := [128]) (by decide) (by simp) hx
theorem Byt.sl {w : World} {g off n c : Nat} {l : List Int} (h : Byt w w.heap.size ⟨g, off, none⟩ l) (hn : l.length = n) (hc : n ≤ c) (hm : c ≤ 9223372036854775807) : Sl w (.slice (some ⟨g, off, none⟩) n c) l :=
  ⟨_, c, by rw [hn], by omega, hm, fun _ => ⟨g, off, rfl, h⟩⟩
end Go.Proofs.Ytkdnhhhgggmapaa.Utf
