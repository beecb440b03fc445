/- The document's examples, and 'small'. -/
import Derived.Test.YtmjimijolfjhmaaDoorInsPRead
import Derived.Test.YtmjimijolfjhmaaDoorInsPPut
import Derived.Test.YtmjimijolfjhmaaDoorLebOne
import Derived.KernelRfl
namespace Go.Proofs.YtmjimijolfjhmaaDoor.Ins
open Go.RowKit Ints Typ
set_option maxRecDepth 100000
set_option maxHeartbeats 1000000
set_option linter.unusedVariables false

theorem aw_ib : saneI ⟨14, 2, 0, 0, [1, 0]⟩ = true ∧ ib ⟨14, 2, 0, 0, [1, 0]⟩ = [14, 2, 1, 0, 2] := by
  refine ⟨by decide, ?_⟩
  rw [show ib ⟨14, 2, 0, 0, [1, 0]⟩ = [14] ++ Leb.uB 2 ++ (Leb.uB 1 ++ (Leb.uB 0 ++ [])) ++ Leb.uB 2 from rfl]
  rw [Leb.uB_small (by decide : 2 < 128), Leb.uB_small (by decide : 1 < 128), Leb.uB_small (by decide : 0 < 128)]
  rfl
theorem aw_rd : rdo [65, 127] 0 = (⟨65, 0, 0, 4294967295, []⟩, 2, 0) := by kernel_rfl
theorem bytes2 (w : World) (g : Nat) (hg : g = w.heap.size) (a b : Int) : Sl (w.alloc (.cells #[.int .u8 a, .int .u8 b] 5)) (.slice (some ⟨g, 0, none⟩) 2 2) [a, b] := by
  subst hg
  refine ⟨_, _, rfl, by simp, by simp, fun _ => ⟨_, _, rfl, by simp, rfl, ?_⟩⟩
  intro j hj
  rcases j with _ | _ | j
  · simp
  · simp
  · simp at hj; omega
theorem bytes5 (w : World) (g : Nat) (hg : g = w.heap.size) (a b c d e : Int) : Sl (w.alloc (.cells #[.int .u8 a, .int .u8 b, .int .u8 c, .int .u8 d, .int .u8 e] 5)) (.slice (some ⟨g, 0, none⟩) 5 5) [a, b, c, d, e] := by
  subst hg
  refine ⟨_, _, rfl, by simp, by simp, fun _ => ⟨_, _, rfl, by simp, rfl, ?_⟩⟩
  intro j hj
  rcases j with _ | _ | _ | _ | _ | j
  · simp
  · simp
  · simp
  · simp
  · simp
  · simp at hj; omega
theorem ints2 (w : World) (g : Nat) (hg : g = w.heap.size) (a b : Int) : SlI (w.alloc (.cells #[.int .i64 a, .int .i64 b] 3)) (.slice (some ⟨g, 0, none⟩) 2 2) [a, b] := by
  subst hg
  refine ⟨_, _, rfl, by simp, by simp, fun _ => ⟨_, _, rfl, by simp, ?_⟩⟩
  intro j hj
  rcases j with _ | _ | j
  · simp
  · simp
  · simp at hj; omega
theorem awake_any (w : World) (hT : KTab w) : Calls Tryd.prog 9 #[] w fun e w' => e = .returned (.bool true) ∧ Below w.heap.size w w' := by
  have hP : ∀ W v, Below w.heap.size w W → SlI W v [1, 0] → Calls Tryd.prog 13 #[.slice none 0 0, .agg #[.int .i64 14, .int .i64 2, .int .i64 0, .int .u64 0, v]] W (PutTold [14, 2, 1, 0, 2] 0 W) := fun W v hW hv => by
    have := pput_any (x := ⟨14, 2, 0, 0, [1, 0]⟩) (Sl.nil W) (by simp) hv (by unfold u64R; simp) (hT.keep hW)
    unfold PutIs at this
    rw [aw_ib.1, aw_ib.2] at this
    exact this
  have hR : ∀ W v, Below w.heap.size w W → Sl W v [65, 127] → Calls Tryd.prog 11 #[v, .int .i64 0] W (RiTold (⟨65, 0, 0, 4294967295, []⟩, 2, 0) W) := fun W v hW hv => by
    have := pread_any 0 hv (by decide) (by simp) (hT.keep hW)
    rw [aw_rd] at this
    exact this
  have hK : ∀ W, Below w.heap.size w W → Calls Tryd.prog 21 #[.int .i64 14] W fun en w' => en = .returned (.int .i64 4) ∧ W = w' := fun W hW => kind_any 14 W (hT.keep hW)
  have HP := Lib.hid hP
  have HR := Lib.hid hR
  have HK := Lib.hid hK
  clear hP hR hK
  have HT0 := Lib.hid ((Below.refl w.heap.size w).alloc (Nat.le_refl _) (.cells #[.int .i64 1, .int .i64 0] 3))
  have HI2 := Lib.hid (ints2 w w.heap.size rfl 1 0)
  go_enter Tryd.func9, Tryd.ntmps9
  go_wp2_with fail
  refine (HP.out _ _ HT0.out HI2.out).mono ?_
  rintro e w1 ⟨v1, rfl, hs1, hb1⟩
  have HB1 := Lib.hid (HT0.out.trans (hb1.mono HT0.out.size))
  have HS1 := Lib.hid hs1
  obtain ⟨A1, c1, rfl, _⟩ := id hs1
  clear hs1 hb1
  go_wp2_with fail
  have HT1 := Lib.hid ((Below.refl w1.heap.size w1).alloc (Nat.le_refl _) (.cells #[.int .u8 65, .int .u8 127] 5))
  refine (HR.out _ _ (HB1.out.trans (HT1.out.mono HB1.out.size)) (bytes2 w1 w1.heap.size rfl 65 127)).mono ?_
  rintro e w2 ⟨o, rfl, ho, hb2⟩
  obtain ⟨P2, k2, rfl⟩ := ho.form
  have HB2 := Lib.hid ((HB1.out.trans (HT1.out.mono HB1.out.size)).trans (hb2.mono (HB1.out.trans (HT1.out.mono HB1.out.size)).size))
  have HS2 := Lib.hid ((HS1.out.keep HT1.out).keep hb2)
  clear hb2 ho
  have HI := Lib.hid (InAt.at_ w2 w2.heap.size 65 0 0 4294967295 (.slice P2 0 k2) 26 rfl)
  have hT2 : Below w2.heap.size w2 (w2.alloc (.cells #[.int .i64 65, .int .i64 0, .int .i64 0, .int .u64 4294967295, .slice P2 0 k2] 26)) := (Below.refl _ _).alloc (Nat.le_refl _) _
  have e1 : (convert 22 9 (.slice A1 5 c1)).run Tryd.prog (w2.alloc (.cells #[.int .i64 65, .int .i64 0, .int .i64 0, .int .u64 4294967295, .slice P2 0 k2] 26)) = .ok (.string (strOfNums [14, 2, 1, 0, 2])) (w2.alloc (.cells #[.int .i64 65, .int .i64 0, .int .i64 0, .int .u64 4294967295, .slice P2 0 k2] 26)) := sl_txt (HS2.out.keep hT2)
  have e2 : (convert 22 9 (.slice (some ⟨w2.heap.size + 1, 0, none⟩) 5 5)).run Tryd.prog ((w2.alloc (.cells #[.int .i64 65, .int .i64 0, .int .i64 0, .int .u64 4294967295, .slice P2 0 k2] 26)).alloc (.cells #[.int .u8 14, .int .u8 2, .int .u8 1, .int .u8 0, .int .u8 2] 5)) = .ok (.string (strOfNums [14, 2, 1, 0, 2])) ((w2.alloc (.cells #[.int .i64 65, .int .i64 0, .int .i64 0, .int .u64 4294967295, .slice P2 0 k2] 26)).alloc (.cells #[.int .u8 14, .int .u8 2, .int .u8 1, .int .u8 0, .int .u8 2] 5)) :=
    sl_txt (bytes5 (w2.alloc (.cells #[.int .i64 65, .int .i64 0, .int .i64 0, .int .u64 4294967295, .slice P2 0 k2] 26)) (w2.heap.size + 1) (by simp) 14 2 1 0 2)
  have HW2 := Lib.hid ((HB2.out.trans (hT2.mono HB2.out.size)).alloc (by have := HB2.out.size; simp; omega) (.cells #[.int .u8 14, .int .u8 2, .int .u8 1, .int .u8 0, .int .u8 2] 5))
  generalize strOfNums [14, 2, 1, 0, 2] = S at e1 e2
  clear hT2
  go_wp2_with fail
  refine (HK.out _ HW2.out).mono ?_
  rintro e w3 ⟨rfl, rfl⟩
  go_wp2_with fail
  go_ret
  exact ⟨rfl, HW2.out⟩
theorem small_core (op A B K : Int) (P : Option Addr) (n c : Nat) (w : World) (b : Bool) (h : decide ((n : Int) ≤ 100) = b) : Calls Tryd.prog 10 #[.agg #[.int .i64 op, .int .i64 A, .int .i64 B, .int .u64 K, .slice P n c]] w fun e w' => e = .returned (.bool b) ∧ Below w.heap.size w w' := by
  have HA1 := Lib.hid ((Below.refl w.heap.size w).alloc (Nat.le_refl _) (.cells #[.int .i64 op, .int .i64 A, .int .i64 B, .int .u64 K, .slice P n c] 26))
  go_enter Tryd.func10, Tryd.ntmps10
  go_wp2_with fail
  refine bodyPost_ret (v := .bool b) (by simp [results, Tryd.results10, go_sem]) rfl ⟨rfl, HA1.out⟩
end Go.Proofs.YtmjimijolfjhmaaDoor.Ins
