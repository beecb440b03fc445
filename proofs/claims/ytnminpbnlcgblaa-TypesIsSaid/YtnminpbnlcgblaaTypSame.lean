/- Whether two functions' types are one: by the program and by the document. -/
import Derived.Test.YtnminpbnlcgblaaTypFunc
import Derived.Lib.Bytes
namespace Go.Proofs.Ytnminpbnlcgblaa.Typ
open Go.RowKit
set_option maxRecDepth 100000
set_option maxHeartbeats 1000000

/-- Bytes that read as a text. -/
def TxtOf (w : World) (v : Value) (s : ByteArray) : Prop := ∀ W, Below w.heap.size w W → (convert 22 9 v).run Try.prog W = .ok (.string s) W
theorem Sl.txtOf {w : World} {v : Value} {l : List Int} (h : Sl w v l) : TxtOf w v (strOfNums l) := fun _ hW => sl_txt (h.keep hW)
def sm (p r q s : ByteArray) : Bool := bif p.toList == q.toList then r.toList == s.toList else false
theorem rsame_core (A1 A2 A3 A4 : Option Addr) (n1 n2 n3 n4 c1 c2 c3 c4 : Nat) (p r q s : ByteArray) (w : World)
    (h1 : TxtOf w (.slice A1 n1 c1) p) (h2 : TxtOf w (.slice A2 n2 c2) r) (h3 : TxtOf w (.slice A3 n3 c3) q) (h4 : TxtOf w (.slice A4 n4 c4) s) :
    Calls Try.prog 17 #[.agg #[.slice A1 n1 c1, .slice A2 n2 c2], .agg #[.slice A3 n3 c3, .slice A4 n4 c4]] w fun e w' => e = .returned (.bool (sm p r q s)) ∧ Below w.heap.size w w' := by
  have HW : Below w.heap.size w ((w.alloc (.cells #[.slice A1 n1 c1, .slice A2 n2 c2] 24)).alloc (.cells #[.slice A3 n3 c3, .slice A4 n4 c4] 24)) := ((Below.refl _ _).alloc (Nat.le_refl _) _).alloc (by simp) _
  have k1 := h1 _ HW
  have k2 := h2 _ HW
  have k3 := h3 _ HW
  have k4 := h4 _ HW
  have HW' := Lib.hid HW
  clear h1 h2 h3 h4 HW
  unfold sm
  cases hpq : (p.toList == q.toList) with
  | true =>
    cases hrs : (r.toList == s.toList) with
    | true =>
      go_enter Try.func17, Try.ntmps17
      go_wp2_with fail
      go_ret
      exact ⟨rfl, HW'.out⟩
    | false =>
      go_enter Try.func17, Try.ntmps17
      go_wp2_with fail
      go_ret
      exact ⟨rfl, HW'.out⟩
  | false =>
    go_enter Try.func17, Try.ntmps17
    go_wp2_with fail
    go_ret
    exact ⟨rfl, HW'.out⟩
theorem toldOf_core (A1 A2 : Option Addr) (n1 n2 c1 c2 : Nat) (p r : ByteArray) (w : World) (h1 : TxtOf w (.slice A1 n1 c1) p) (h2 : TxtOf w (.slice A2 n2 c2) r) :
    Calls Try.prog 41 #[.agg #[.slice A1 n1 c1, .slice A2 n2 c2]] w fun e w' => e = .returned (.agg #[.string p, .string r]) ∧ Below w.heap.size w w' := by
  have HW : Below w.heap.size w ((w.alloc (.cells #[.slice A1 n1 c1, .slice A2 n2 c2] 24)).alloc (.cells #[.string ⟨#[]⟩, .string ⟨#[]⟩] 60)) := ((Below.refl _ _).alloc (Nat.le_refl _) _).alloc (by simp) _
  have k1 := h1 _ HW
  have k2 := h2 _ HW
  clear h1 h2 HW
  go_enter Try.func41, Try.ntmps41
  go_wp2_with fail
  refine bodyPost_ret (v := .agg #[.string p, .string r]) (by simp [results, Try.results41, go_sem]) rfl ⟨rfl, ?_⟩
  repeat (first | exact Below.refl _ _ | refine Below.setCell ?_ (by first | (simp; done) | (simp; omega)) _ | refine Below.alloc ?_ (by first | (simp; done) | (simp; omega)) _)
theorem eq_told (x y : Operand) (p r q s : ByteArray) (W : World) : (do eqGuard BinOp.eql 60 x y (.agg #[.string p, .string r]) (.agg #[.string q, .string s]); binOp BinOp.eql 60 (.agg #[.string p, .string r]) (.agg #[.string q, .string s]) : Sem Value).run Try.prog W = .ok (.bool (sm p r q s)) W := by
  unfold sm
  go_simp
  by_cases h0 : p.toList = q.toList
  · by_cases h1 : r.toList = s.toList
    · simp [h0, h1]
    · simp [h0, h1]
  · simp [h0]
theorem run_ft (x y : Value) (_hx : x.oneCell' = true) (_hy : y.oneCell' = true) (g : Nat) (W : World) (h0 : W.cell? ⟨g, 0, none⟩ = some x) (h1 : W.cell? ⟨g, 1, none⟩ = some y) : (Instr.loadAt 24 (.pointer (some ⟨g, 0, none⟩))).run Try.prog W = .ok (.agg #[x, y]) W := by
  go_simp
/-- A function's type that lies in memory. -/
def FtAt (w : World) (g : Nat) (x y : Value) : Prop := g < w.heap.size ∧ x.oneCell' = true ∧ y.oneCell' = true ∧ w.cell? ⟨g, 0, none⟩ = some x ∧ w.cell? ⟨g, 1, none⟩ = some y
theorem FtAt.keep {w W : World} {g : Nat} {a b : Value} (x : FtAt w g a b) (hb : Below w.heap.size w W) : FtAt W g a b := by
  obtain ⟨h0, o1, o2, h1, h2⟩ := x
  exact ⟨Nat.lt_of_lt_of_le h0 hb.size, o1, o2, by rw [hb.cell (p := ⟨g, 0, none⟩) h0]; exact h1, by rw [hb.cell (p := ⟨g, 1, none⟩) h0]; exact h2⟩
theorem FtAt.run {W : World} {g : Nat} {a b : Value} (x : FtAt W g a b) : (Instr.loadAt 24 (.pointer (some ⟨g, 0, none⟩))).run Try.prog W = .ok (.agg #[a, b]) W := run_ft a b x.2.1 x.2.2.1 g W x.2.2.2.1 x.2.2.2.2
theorem FtAt.at_ (w : World) (g : Nat) (a b : Value) (t : TypeId) (ha : a.oneCell' = true) (hb : b.oneCell' = true) (hg : g = w.heap.size) : FtAt (w.alloc (.cells #[a, b] t)) g a b := by subst hg; exact ⟨by simp, ha, hb, by simp, by simp⟩
theorem same_core (A1 A2 A3 A4 : Option Addr) (n1 n2 n3 n4 c1 c2 c3 c4 : Nat) (p r q s : ByteArray) (w : World)
    (h1 : TxtOf w (.slice A1 n1 c1) p) (h2 : TxtOf w (.slice A2 n2 c2) r) (h3 : TxtOf w (.slice A3 n3 c3) q) (h4 : TxtOf w (.slice A4 n4 c4) s) :
    Calls Try.prog 24 #[.agg #[.slice A1 n1 c1, .slice A2 n2 c2], .agg #[.slice A3 n3 c3, .slice A4 n4 c4]] w fun e w' => e = .returned (.bool (sm p r q s)) ∧ Below w.heap.size w w' := by
  have HW : Hid (Below w.heap.size w ((w.alloc (.cells #[.slice A1 n1 c1, .slice A2 n2 c2] 24)).alloc (.cells #[.slice A3 n3 c3, .slice A4 n4 c4] 24))) := ((Below.refl _ _).alloc (Nat.le_refl _) _).alloc (by simp) _
  have HE := Lib.hid (fun x y W => eq_told x y p r q s W)
  have H1 := Lib.hid (fun W (hW : Below w.heap.size w W) => toldOf_core A1 A2 n1 n2 c1 c2 p r W (fun V hV => h1 V (hW.trans (hV.mono hW.size))) (fun V hV => h2 V (hW.trans (hV.mono hW.size))))
  have H2 := Lib.hid (fun W (hW : Below w.heap.size w W) => toldOf_core A3 A4 n3 n4 c3 c4 q s W (fun V hV => h3 V (hW.trans (hV.mono hW.size))) (fun V hV => h4 V (hW.trans (hV.mono hW.size))))
  have HA := Lib.hid ((FtAt.at_ w w.heap.size (.slice A1 n1 c1) (.slice A2 n2 c2) 24 rfl rfl rfl).keep (W := (w.alloc (.cells #[.slice A1 n1 c1, .slice A2 n2 c2] 24)).alloc (.cells #[.slice A3 n3 c3, .slice A4 n4 c4] 24)) ((Below.refl _ _).alloc (Nat.le_refl _) _))
  have HB := Lib.hid (FtAt.at_ (w.alloc (.cells #[.slice A1 n1 c1, .slice A2 n2 c2] 24)) (w.heap.size + 1) (.slice A3 n3 c3) (.slice A4 n4 c4) 24 rfl rfl (by simp))
  clear h1 h2 h3 h4
  generalize sm p r q s = R at *
  go_enter Try.func24, Try.ntmps24
  go_wp2_with fail
  refine Stab.region 10 [.is (.agg #[.slice A1 n1 c1, .slice A2 n2 c2]), .is (.agg #[.string p, .string r]), .is (.agg #[.slice A3 n3 c3, .slice A4 n4 c4]), .is (.agg #[.string q, .string s]), .is (.bool R), .is (.bool R)] (by kernel_rfl) (by kernel_rfl) rfl rfl ?_ ?_
  · repeat' (first | exact Stab.steps_nil | with_reducible refine Stab.steps_cons ?_ ?_ ?_)
    all_goals first
      | exact trivial
      | exact Stab.owes_assign rfl rfl rfl
      | exact Stab.owes_load rfl (fun v W hb hv => by subst hv; exact (HA.out.keep hb).run) rfl
      | exact Stab.owes_load rfl (fun v W hb hv => by subst hv; exact (HB.out.keep hb).run) rfl
      | exact Stab.owes_bin rfl rfl rfl (fun W => HE.out _ _ W) rfl
      | (refine Stab.owes_call Try.func41 (by kernel_rfl) (by kernel_rfl) rfl (fun vs W hb hall => ?_) rfl; obtain ⟨_, _, rfl, rfl, rfl⟩ := hall; (with_reducible refine (H1.out W (HW.out.trans (hb.mono HW.out.size))).mono ?_); rintro e w2 ⟨rfl, hb2⟩; exact ⟨_, rfl, hb2, rfl⟩)
      | (refine Stab.owes_call Try.func41 (by kernel_rfl) (by kernel_rfl) rfl (fun vs W hb hall => ?_) rfl; obtain ⟨_, _, rfl, rfl, rfl⟩ := hall; (with_reducible refine (H2.out W (HW.out.trans (hb.mono HW.out.size))).mono ?_); rintro e w2 ⟨rfl, hb2⟩; exact ⟨_, rfl, hb2, rfl⟩)
  · intro W hb _
    simp only [Act.put, List.setIfInBounds_toArray, List.set_cons_succ, List.set_cons_zero]
    go_wp2
    go_ret
    exact ⟨rfl, HW.out.trans (hb.mono HW.out.size)⟩
/-- Are two one type? -/
def smL (p r q s : List Int) : Bool := bif decide (p = q) then decide (r = s) else false
theorem str_beq {a b : List Int} (ha : ∀ x ∈ a, 0 ≤ x ∧ x < 256) (hb : ∀ x ∈ b, 0 ≤ x ∧ x < 256) : ((strOfNums a).toList == (strOfNums b).toList) = decide (a = b) := by
  by_cases h : a = b
  · subst h; simp
  · rw [decide_eq_false h]
    have : (strOfNums a).toList ≠ (strOfNums b).toList := fun e => h (str_inj ha hb (by
      rw [Lib.toList_data, Lib.toList_data] at e
      exact ByteArray.ext (Array.toList_inj.1 e)))
    simpa using this
theorem sm_lists {p r q s : List Int} (hp : ∀ x ∈ p, 0 ≤ x ∧ x < 256) (hr : ∀ x ∈ r, 0 ≤ x ∧ x < 256) (hq : ∀ x ∈ q, 0 ≤ x ∧ x < 256) (hs : ∀ x ∈ s, 0 ≤ x ∧ x < 256) : sm (strOfNums p) (strOfNums r) (strOfNums q) (strOfNums s) = smL p r q s := by
  unfold sm smL
  rw [str_beq hp hq, str_beq hr hs]
theorem same_any (v u v2 u2 : Value) (p r q s : List Int) (w : World) (h1 : Sl w v p) (h2 : Sl w u r) (h3 : Sl w v2 q) (h4 : Sl w u2 s) (hp : ∀ x ∈ p, 0 ≤ x ∧ x < 256) (hr : ∀ x ∈ r, 0 ≤ x ∧ x < 256) (hq : ∀ x ∈ q, 0 ≤ x ∧ x < 256) (hs : ∀ x ∈ s, 0 ≤ x ∧ x < 256) :
    Calls Try.prog 24 #[.agg #[v, u], .agg #[v2, u2]] w fun e w' => e = .returned (.bool (smL p r q s)) ∧ Below w.heap.size w w' := by
  rw [← sm_lists hp hr hq hs]
  have k1 := h1.txtOf
  have k2 := h2.txtOf
  have k3 := h3.txtOf
  have k4 := h4.txtOf
  obtain ⟨A1, c1, rfl, _⟩ := h1
  obtain ⟨A2, c2, rfl, _⟩ := h2
  obtain ⟨A3, c3, rfl, _⟩ := h3
  obtain ⟨A4, c4, rfl, _⟩ := h4
  exact same_core _ _ _ _ _ _ _ _ _ _ _ _ _ _ _ _ w k1 k2 k3 k4
theorem rsame_any (v u v2 u2 : Value) (p r q s : List Int) (w : World) (h1 : Sl w v p) (h2 : Sl w u r) (h3 : Sl w v2 q) (h4 : Sl w u2 s) (hp : ∀ x ∈ p, 0 ≤ x ∧ x < 256) (hr : ∀ x ∈ r, 0 ≤ x ∧ x < 256) (hq : ∀ x ∈ q, 0 ≤ x ∧ x < 256) (hs : ∀ x ∈ s, 0 ≤ x ∧ x < 256) :
    Calls Try.prog 17 #[.agg #[v, u], .agg #[v2, u2]] w fun e w' => e = .returned (.bool (smL p r q s)) ∧ Below w.heap.size w w' := by
  rw [← sm_lists hp hr hq hs]
  have k1 := h1.txtOf
  have k2 := h2.txtOf
  have k3 := h3.txtOf
  have k4 := h4.txtOf
  obtain ⟨A1, c1, rfl, _⟩ := h1
  obtain ⟨A2, c2, rfl, _⟩ := h2
  obtain ⟨A3, c3, rfl, _⟩ := h3
  obtain ⟨A4, c4, rfl, _⟩ := h4
  exact rsame_core _ _ _ _ _ _ _ _ _ _ _ _ _ _ _ _ w k1 k2 k3 k4
end Go.Proofs.Ytnminpbnlcgblaa.Typ
