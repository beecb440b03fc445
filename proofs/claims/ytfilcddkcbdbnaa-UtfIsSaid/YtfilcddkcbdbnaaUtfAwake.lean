/- The document's example, as every statement of layer 3 asks it first. -/
import Derived.Test.YtfilcddkcbdbnaaUtfLay
namespace Go.Proofs.Ytfilcddkcbdbnaa.Utf
open Go.RowKit
set_option maxRecDepth 100000
set_option maxHeartbeats 1000000

theorem ok_ex : okR 8364 := by decide
theorem txt_ex : Txt [226, 130, 172] [8364] := ⟨fun v hv => by rw [show v = 8364 from by simpa using hv]; exact ok_ex, by decide +kernel⟩
theorem txt_none : isT [] = true := isT_true Txt.nil
theorem txt_bad : isT [128] = false := by
  refine isT_false fun x hx => ?_
  exact dec_none (b := [128]) (by decide) (by simp) hx
theorem Byt.sl {w : World} {g off n c : Nat} {l : List Int} (h : Byt w w.heap.size ⟨g, off, none⟩ l) (hn : l.length = n) (hc : n ≤ c) (hm : c ≤ 9223372036854775807) : Sl w (.slice (some ⟨g, off, none⟩) n c) l :=
  ⟨_, c, by rw [hn], by omega, hm, fun _ => ⟨g, off, rfl, h⟩⟩
theorem awake_any (w : World) : Calls Try.prog 9 #[] w fun e w' => e = .returned (.bool true) ∧ Below w.heap.size w w' := by
  have HR := Lib.hid (prunes_any (.slice (some ⟨w.heap.size, 0, none⟩) 3 3) [226, 130, 172] (newB w [226, 130, 172]) (by decide) ((newB_byt w [226, 130, 172]).sl rfl (by omega) (by omega)) (by decide))
  go_enter Try.func9, Try.ntmps9
  go_wp2_with fail
  refine HR.out.mono ?_
  rintro e w1 ⟨(⟨o, x, ht, rfl, ho⟩ | ⟨hn, rfl⟩), hb⟩
  · obtain rfl := Txt.one ht txt_ex
    have hb1 : Below w.heap.size w w1 := ((Below.refl _ _).alloc (Nat.le_refl _) _).trans (hb.mono (by simp [newB]))
    obtain ⟨A, c, rfl, _, _, h4⟩ := ho.sl
    obtain ⟨g, off, rfl, hg, hI⟩ := h4 (by simp)
    have c1 : w1.cell? ⟨g, off + 0, none⟩ = some (.int .i64 8364) := hI 0 (by decide)
    rw [Nat.add_zero] at c1
    have HB1 := Lib.hid hb1
    clear ht ho hb hb1 h4 hI
    go_wp2_with fail
    refine (pvalid_any (.slice (some ⟨w1.heap.size, 0, none⟩) 1 1) [128] (newB w1 [128]) (by decide) ((newB_byt w1 [128]).sl rfl (by omega) (by omega))).mono ?_
    rw [txt_bad]
    rintro e w2 ⟨rfl, hb2⟩
    have HB2 := Lib.hid (HB1.out.trans ((((Below.refl _ _).alloc (Nat.le_refl _) _).trans (hb2.mono (by simp [newB]))).mono HB1.out.size))
    clear hb2
    go_wp2_with fail
    refine (pvalid_any (.slice none 0 0) [] w2 (by simp) (Sl.nil w2)).mono ?_
    rw [txt_none]
    rintro e w3 ⟨rfl, hb3⟩
    have HB3 := Lib.hid (HB2.out.trans (hb3.mono HB2.out.size))
    clear hb3
    go_wp2_with fail
    go_ret
    exact ⟨rfl, HB3.out⟩
  · exact absurd txt_ex (hn _)
end Go.Proofs.Ytfilcddkcbdbnaa.Utf
