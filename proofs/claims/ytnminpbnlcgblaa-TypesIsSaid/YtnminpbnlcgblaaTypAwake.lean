/- The document's example, as every statement of layer 4 asks it first; whether a type has few parts. -/
import Derived.Test.YtnminpbnlcgblaaTypThere
import Derived.Test.YtnminpbnlcgblaaTypSame
namespace Go.Proofs.Ytnminpbnlcgblaa.Typ
open Go.RowKit
set_option maxRecDepth 100000
set_option maxHeartbeats 1000000

def smB (n m : Nat) : Bool := bif decide (n ≤ 100) then decide (m ≤ 100) else false
theorem small_any (A1 A2 : Option Addr) (n1 n2 c1 c2 : Nat) (w : World) : Calls Try.prog 10 #[.agg #[.slice A1 n1 c1, .slice A2 n2 c2]] w fun e w' => e = .returned (.bool (smB n1 n2)) ∧ Below w.heap.size w w' := by
  unfold smB
  by_cases h1 : n1 ≤ 100
  · rw [decide_eq_true h1]
    have t1 : decide ((n1 : Int) ≤ 100) = true := by simp; omega
    by_cases h2 : n2 ≤ 100
    · rw [decide_eq_true h2]
      have t2 : decide ((n2 : Int) ≤ 100) = true := by simp; omega
      clear h1 h2
      go_enter Try.func10, Try.ntmps10
      go_wp2_with fail
      go_ret
      exact ⟨rfl, (Below.refl _ _).alloc (Nat.le_refl _) _⟩
    · rw [decide_eq_false h2]
      have t2 : decide ((n2 : Int) ≤ 100) = false := by simp; omega
      clear h1 h2
      go_enter Try.func10, Try.ntmps10
      go_wp2_with fail
      go_ret
      exact ⟨rfl, (Below.refl _ _).alloc (Nat.le_refl _) _⟩
  · rw [decide_eq_false h1]
    have t1 : decide ((n1 : Int) ≤ 100) = false := by simp; omega
    clear h1
    go_enter Try.func10, Try.ntmps10
    go_wp2_with fail
    go_ret
    exact ⟨rfl, (Below.refl _ _).alloc (Nat.le_refl _) _⟩
def exP : List Int := [127, 126]
def exR : List Int := [127]
theorem ex_sane : sane exP exR = true := by decide
theorem ex_bytes : fnB exP exR = [96, 2, 127, 126, 1, 127] := by rw [fnB_eq (by decide) (by decide)]; rfl
theorem newB_sl (w : World) (l : List Int) (n : Nat) (hn : n = l.length) (hm : l.length ≤ 1000) : Sl (w.alloc (.cells (vb l).toArray 5)) (.slice (some ⟨w.heap.size, 0, none⟩) n n) l := by
  subst hn
  refine ⟨_, _, rfl, Nat.le_refl _, by omega, fun _ => ⟨w.heap.size, 0, rfl, by simp, rfl, fun j hj => ?_⟩⟩
  have : (w.alloc (.cells (vb l).toArray 5)).cell? ⟨w.heap.size, 0 + j, none⟩ = (vb l)[j]? := by simp
  rw [this]
  unfold vb
  rw [List.getElem?_map, List.getElem?_eq_getElem hj]
  simp [hj]
theorem awake_any (w : World) : Calls Try.prog 9 #[] w fun e w' => e = .returned (.bool true) ∧ Below w.heap.size w w' := by
  have hP : ∀ W : World, Calls Try.prog 18 #[.slice none 0 0, .agg #[.slice (some ⟨W.heap.size, 0, none⟩) 2 2, .slice (some ⟨W.heap.size + 1, 0, none⟩) 1 1]] ((W.alloc (.cells #[.int .u8 127, .int .u8 126] 5)).alloc (.cells #[.int .u8 127] 5)) (LaidE [96, 2, 127, 126, 1, 127] 0 ((W.alloc (.cells #[.int .u8 127, .int .u8 126] 5)).alloc (.cells #[.int .u8 127] 5))) := by
    intro W
    have s1 := (newB_sl W exP 2 rfl (by decide)).keep ((Below.refl _ _).alloc (Nat.le_refl _) (.cells (vb exR).toArray 5))
    have s2 := newB_sl (W.alloc (.cells (vb exP).toArray 5)) exR 1 rfl (by decide)
    rw [show (W.alloc (.cells (vb exP).toArray 5)).heap.size = W.heap.size + 1 from by simp] at s2
    have := putFunc_any (.slice none 0 0) _ _ [] exP exR _ (Sl.nil _) s1 s2 (by simp) (by decide) (by decide)
    unfold PfIs at this
    rw [ex_sane, ex_bytes] at this
    exact this
  have hF : ∀ (W : World) (v : Value), Sl W v [96, 2, 127, 126, 1, 127] → Calls Try.prog 13 #[v, .int .i64 0] W (FnTold [127, 126] [127] 6 0 W) := by
    intro W v hv
    have := func_any v [96, 2, 127, 126, 1, 127] 0 W (by decide) hv (by decide)
    unfold FnIs at this
    have e := fn_back (b := []) ex_sane
    rw [ex_bytes] at e
    have e : fn [96, 2, 127, 126, 1, 127] 0 = (exP, exR, 6, 0) := e
    rw [e] at this
    exact this
  have HP := Lib.hid hP
  have HF := Lib.hid hF
  clear hP hF
  go_enter Try.func9, Try.ntmps9
  go_wp2_with fail
  refine (HP.out _).mono ?_
  rintro e w1 ⟨v1, rfl, ho1, hb1⟩
  have HB1 := Lib.hid ((((Below.refl w.heap.size w).alloc (Nat.le_refl _) (.cells #[.int .u8 127, .int .u8 126] 5)).alloc (by simp) (.cells #[.int .u8 127] 5)).trans (hb1.mono (by simp; omega)))
  have HO1 := Lib.hid ho1
  obtain ⟨A1, c1, rfl, _⟩ := id ho1
  clear ho1 hb1
  go_wp2_with fail
  refine (HF.out _ _ HO1.out).mono ?_
  rintro e w2 ⟨o1, o2, rfl, ho1, ho2, hb2⟩
  have HB2 := Lib.hid (HB1.out.trans (hb2.mono HB1.out.size))
  have HS2 := Lib.hid (HO1.out.keep hb2)
  obtain ⟨P1, k1, rfl, _⟩ := ho1.sl
  obtain ⟨P2, k2, rfl, _⟩ := ho2.sl
  clear hb2 ho1 ho2
  have hT : Below w2.heap.size w2 (w2.alloc (.cells #[.slice P1 2 k1, .slice P2 1 k2] 24)) := (Below.refl _ _).alloc (Nat.le_refl _) _
  have e1 : (convert 22 9 (.slice A1 6 c1)).run Try.prog (w2.alloc (.cells #[.slice P1 2 k1, .slice P2 1 k2] 24)) = .ok (.string (strOfNums [96, 2, 127, 126, 1, 127])) (w2.alloc (.cells #[.slice P1 2 k1, .slice P2 1 k2] 24)) := sl_txt (HS2.out.keep hT)
  have e2 : (convert 22 9 (.slice (some ⟨w2.heap.size + 1, 0, none⟩) 6 6)).run Try.prog ((w2.alloc (.cells #[.slice P1 2 k1, .slice P2 1 k2] 24)).alloc (.cells #[.int .u8 96, .int .u8 2, .int .u8 127, .int .u8 126, .int .u8 1, .int .u8 127] 5)) = .ok (.string (strOfNums [96, 2, 127, 126, 1, 127])) ((w2.alloc (.cells #[.slice P1 2 k1, .slice P2 1 k2] 24)).alloc (.cells #[.int .u8 96, .int .u8 2, .int .u8 127, .int .u8 126, .int .u8 1, .int .u8 127] 5)) := by
    have := newB_sl (w2.alloc (.cells #[.slice P1 2 k1, .slice P2 1 k2] 24)) [96, 2, 127, 126, 1, 127] 6 rfl (by decide)
    rw [show (w2.alloc (.cells #[.slice P1 2 k1, .slice P2 1 k2] 24)).heap.size = w2.heap.size + 1 from by simp] at this
    exact sl_txt this
  generalize strOfNums [96, 2, 127, 126, 1, 127] = S at e1 e2
  clear hT
  go_wp2_with fail
  go_ret
  exact ⟨rfl, by repeat (first | exact HB2.out | refine Below.alloc ?_ (by first | exact HB2.out.size | (have := HB2.out.size; simp; omega)) _)⟩
end Go.Proofs.Ytnminpbnlcgblaa.Typ
