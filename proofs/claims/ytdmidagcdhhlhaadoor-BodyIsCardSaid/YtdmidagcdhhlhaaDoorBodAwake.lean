/- The document's example, walked. -/
import Derived.Test.YtdmidagcdhhlhaaDoorBodNesteds
import Derived.Test.YtdmidagcdhhlhaaDoorBodSaneP
namespace Go.Proofs.YtdmidagcdhhlhaaDoor.Bod
open Go.RowKit Ints Typ Ins
set_option maxRecDepth 100000
set_option maxHeartbeats 2000000
set_option linter.unusedVariables false
def upL : List (Ins × Value) := [(⟨2, 0, 0, 0, []⟩, .slice none 0 0), (⟨12, 0, 0, 0, []⟩, .slice none 0 0), (⟨11, 0, 0, 0, []⟩, .slice none 0 0)]
def upC : Array Value := #[.int .i64 2, .int .i64 0, .int .i64 0, .int .u64 0, .slice none 0 0, .int .i64 12, .int .i64 0, .int .i64 0, .int .u64 0, .slice none 0 0, .int .i64 11, .int .i64 0, .int .i64 0, .int .u64 0, .slice none 0 0]
theorem up_ok (w : World) (o : Int) : InOk w (⟨o, 0, 0, 0, []⟩, .slice none 0 0) := ⟨OwnI.slI (ownI_nil w 0), (show u64R 0 by unfold u64R; decide)⟩
theorem up_row (w : World) : InRow (w.alloc (.cells upC 50)) (.slice (some ⟨w.heap.size, 0, none⟩) 3 3) upL := by
  refine ⟨⟨_, 3, rfl, by decide, by decide, fun _ => ⟨w.heap.size, 0, rfl, by rw [size_new]; omega, fun j p hp => ?_⟩⟩, fun p hp => ?_⟩
  · match j, hp with
    | 0, hp => simp only [upL, List.getElem?_cons_zero, Option.some.injEq] at hp; subst hp; exact ⟨by simp [upC], by simp [upC], by simp [upC], by simp [upC], by simp [upC]⟩
    | 1, hp => simp only [upL, List.getElem?_cons_zero, List.getElem?_cons_succ, Option.some.injEq] at hp; subst hp; exact ⟨by simp [upC], by simp [upC], by simp [upC], by simp [upC], by simp [upC]⟩
    | 2, hp => simp only [upL, List.getElem?_cons_zero, List.getElem?_cons_succ, Option.some.injEq] at hp; subst hp; exact ⟨by simp [upC], by simp [upC], by simp [upC], by simp [upC], by simp [upC]⟩
    | j + 3, hp => simp [upL] at hp
  · simp only [upL, List.mem_cons, List.not_mem_nil, or_false] at hp
    rcases hp with rfl | rfl | rfl
    · exact up_ok _ _
    · exact up_ok _ _
    · exact up_ok _ _
theorem up_dM : dM (opsL upL) = some [(-1, 2), (-1, -1), (-1, -1)] := by kernel_rfl
theorem up_sane : SaneB upL := by
  refine ⟨⟨_, up_dM⟩, by decide, fun q p hp => ?_⟩
  match q, hp with
  | 0, hp => simp only [upL, List.getElem?_cons_zero, Option.some.injEq] at hp; subst hp; exact ⟨by kernel_rfl, by decide⟩
  | 1, hp => simp only [upL, List.getElem?_cons_zero, List.getElem?_cons_succ, Option.some.injEq] at hp; subst hp; exact ⟨by kernel_rfl, by decide⟩
  | 2, hp => simp only [upL, List.getElem?_cons_zero, List.getElem?_cons_succ, Option.some.injEq] at hp; subst hp; exact ⟨by kernel_rfl, by decide⟩
  | q + 3, hp => simp [upL] at hp
theorem up_0 : tgt (opsL upL) (1 : Nat) (0 : Nat) = (2, true) := by kernel_rfl
theorem up_1 : tgt (opsL upL) (1 : Nat) (1 : Nat) = (3, true) := by kernel_rfl
theorem up_2 : tgt (opsL upL) (1 : Nat) (2 : Nat) = (0, false) := by kernel_rfl
theorem up_any {w : World} (hT : KTab w) : Calls Tryd.prog 9 #[] w fun e w' => e = .returned (.bool true) ∧ Below w.heap.size w w' := by
  have HT := Lib.hid hT
  clear hT
  go_enter Tryd.func9, Tryd.ntmps9
  go_wp2_with fail
  have HB := Lib.hid ((Below.refl w.heap.size w).alloc (Nat.le_refl _) (.cells upC 50))
  have HR := Lib.hid (up_row w)
  unfold upC at HB HR
  generalize (w.alloc (.cells _ 50)) = w1 at *
  generalize w.heap.size = q at HR ⊢
  have h0 := btarget_yes (l := upL) (p := 1) (b := 0) (HT.out.keep HB.out) rfl (by decide) HR.out up_dM (by decide) (by decide)
  rw [up_0] at h0
  refine h0.mono ?_
  rintro e w2 ⟨rfl, hb⟩
  have HB2 := Lib.hid (HB.out.trans (hb.mono HB.out.size))
  have HR2 := Lib.hid (HR.out.keep hb)
  clear h0 hb
  go_wp2_with fail
  have h1 := btarget_yes (l := upL) (p := 1) (b := 1) (HT.out.keep HB2.out) rfl (by decide) HR2.out up_dM (by decide) (by decide)
  rw [up_1] at h1
  refine h1.mono ?_
  rintro e w3 ⟨rfl, hb⟩
  have HB3 := Lib.hid (HB2.out.trans (hb.mono HB2.out.size))
  have HR3 := Lib.hid (HR2.out.keep hb)
  clear h1 hb
  go_wp2_with fail
  have h2 := btarget_yes (l := upL) (p := 1) (b := 2) (HT.out.keep HB3.out) rfl (by decide) HR3.out up_dM (by decide) (by decide)
  rw [up_2] at h2
  refine h2.mono ?_
  rintro e w4 ⟨rfl, hb⟩
  have HB4 := Lib.hid (HB3.out.trans (hb.mono HB3.out.size))
  have HR4 := Lib.hid (HR3.out.keep hb)
  clear h2 hb
  go_wp2_with fail
  refine (bsaneP_any (l := upL) (HT.out.keep HB4.out) rfl HR4.out).mono ?_
  rintro e w5 ⟨⟨b, rfl, hs⟩, hb⟩
  obtain rfl : b = true := hs.2 up_sane
  have HB5 := Lib.hid (HB4.out.trans (hb.mono HB4.out.size))
  clear hs hb
  go_wp2_with fail
  exact bodyPost_ret (v := .bool true) (by simp [results, Tryd.results9, go_sem]) rfl ⟨rfl, HB5.out⟩
end Go.Proofs.YtdmidagcdhhlhaaDoor.Bod
