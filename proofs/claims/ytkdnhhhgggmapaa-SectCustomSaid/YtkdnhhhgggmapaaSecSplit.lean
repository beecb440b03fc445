/- Splitting, by the document: walked. -/
import Derived.Test.YtkdnhhhgggmapaaSecSame
import Derived.Deep.RegionLaw
namespace Go.Proofs.Ytkdnhhhgggmapaa.Sec
open Go.RowKit Utf
set_option maxRecDepth 100000
set_option maxHeartbeats 4000000
set_option linter.unusedVariables false
/-- Sections, one after another, by the document. -/
noncomputable def spl (b : List Int) : Nat → Nat → Int → List Sct → List Sct × Int
  | 0, _, _, _ => ([], 4)
  | f + 1, k, last, out =>
    if b.length ≤ k then (out, 0)
    else if 11 < b.getD k 0 then ([], 3)
    else match Leb.rdl Leb.fitU 32 (b.drop (k + 1)) 0 0 with
      | .short => ([], 2)
      | .form => ([], 3)
      | .ok v m =>
        if b.length - (k + 1 + m / 7) < v then ([], 2)
        else if b.getD k 0 = 0 then
          (if (nm ((b.drop (k + 1 + m / 7)).take v) 0).2.2 ≠ 0 then ([], (nm ((b.drop (k + 1 + m / 7)).take v) 0).2.2)
           else spl b f (k + 1 + m / 7 + v) last (out ++ [(0, (b.drop (k + 1 + m / 7)).take v)]))
        else if b.getD k 0 ≤ last then ([], 3)
        else spl b f (k + 1 + m / 7 + v) (b.getD k 0) (out ++ [(b.getD k 0, (b.drop (k + 1 + m / 7)).take v)])
/-- Split, by the document. -/
noncomputable def split7 (b : List Int) : List Sct × Int :=
  if 65536 < b.length then ([], 4) else if b.length < 8 then ([], 2) else if b.take 8 ≠ hd8 then ([], 3) else spl b 65537 8 0 []
/-- What Split tells. -/
def STold (R : List Sct × Int) (w : World) (e : Ending) (w' : World) : Prop := ∃ v l, e = .returned (.tuple #[v, .int .i64 R.2]) ∧ ScRow w' v l ∧ scL l = R.1 ∧ Below w.heap.size w w'
theorem txt_eq {a b : List Int} (ha : ∀ x ∈ a, 0 ≤ x ∧ x < 256) (hb : ∀ x ∈ b, 0 ≤ x ∧ x < 256) (h : (strOfNums a).toList = (strOfNums b).toList) : a = b := by
  refine str_inj ha hb ?_
  rw [ByteArray.toList_eq, ByteArray.toList_eq] at h
  exact ByteArray.ext (Array.toList_inj.mp h)
theorem hd8_byte : ∀ x ∈ hd8, 0 ≤ x ∧ x < 256 := by decide
theorem drewB (w : World) : Below w.heap.size w w.drew := ⟨rfl, rfl, rfl, Nat.le_refl _, fun _ _ => rfl⟩
theorem own_sl8 {w : World} {B : Nat} {v : Value} {l : List Int} (h : Leb.Own w B v l) : Sl w v l := by
  obtain ⟨⟨g, c, rfl⟩, h1, ⟨hv, _⟩ | ⟨g', cap, cur, hv, hB, hc, hle, hm, hsz, ht⟩⟩ := id h
  · cases hv
  · injection hv with e1 e2 e3
    subst e3
    refine ⟨_, c, rfl, hle, by unfold maxLen at hm; omega, fun h0 => ⟨g, 0, rfl, ⟨?_, rfl, fun j hj => ?_⟩⟩⟩
    · simp only [Option.some.injEq, Addr.mk.injEq, and_true] at e1
      rw [e1]
      exact (Array.getElem?_eq_some_iff.1 hc).1
    · have := World.ownsRow.cells h.2 (g := g) rfl j (.int .u8 (l.getD j 0)) (by unfold Leb.vb; rw [List.getElem?_map, List.getElem?_eq_getElem hj, List.getD_eq_getElem?_getD, List.getElem?_eq_getElem hj]; rfl)
      rw [s_plain] at this
      exact this
/-- What is too long, too short, or no module. -/
theorem rsplit_no {A : Option Addr} {n c : Nat} {b : List Int} {w : World} (hn : b.length = n) (hs : Sl w (.slice A n c) b) (hb : ∀ x ∈ b, 0 ≤ x ∧ x < 256) (h : 65536 < n ∨ n < 8) :
    Calls Try.prog 12 #[.slice A n c] w (STold (split7 b) w) := by
  have HN := Lib.hid hn
  clear hs hb hn
  by_cases h1 : 65536 < n
  · have HV : Hid (split7 b = ([], 4)) := by show _ = _; unfold split7; rw [HN.out, if_pos h1]
    have t1 : decide ((65536 : Int) < (n : Int)) = true := decide_eq_true (by omega)
    have t1' : decide (65536 < n) = true := decide_eq_true h1
    clear h h1
    go_enter Try.func12, Try.ntmps12
    go_wp2_with fail
    exact bodyPost_ret (v := .tuple #[.slice none 0 0, .int .i64 4]) (by simp [results, Try.results12, go_sem]) rfl ⟨_, [], by rw [HV.out], ScRow.nil _, by rw [HV.out]; rfl, Below.refl _ _⟩
  · have h2 : n < 8 := by omega
    have HV : Hid (split7 b = ([], 2)) := by show _ = _; unfold split7; rw [HN.out, if_neg h1, if_pos h2]
    have t1 : decide ((65536 : Int) < (n : Int)) = false := decide_eq_false (by omega)
    have t1' : decide (65536 < n) = false := decide_eq_false h1
    have t2 : decide ((n : Int) < 8) = true := decide_eq_true (by omega)
    have t2' : decide (n < 8) = true := decide_eq_true h2
    clear h h1 h2
    go_enter Try.func12, Try.ntmps12
    go_wp2_with fail
    exact bodyPost_ret (v := .tuple #[.slice none 0 0, .int .i64 2]) (by simp [results, Try.results12, go_sem]) rfl ⟨_, [], by rw [HV.out], ScRow.nil _, by rw [HV.out]; rfl, Below.refl _ _⟩
theorem sl_take {w : World} {g off n c k : Nat} {l : List Int} (h : Sl w (.slice (some ⟨g, off, none⟩) n c) l) (hk : k ≤ l.length) : Sl w (.slice (some ⟨g, off, none⟩) k c) (l.take k) := by
  obtain ⟨A, c', h1, h2, h3, h4⟩ := h
  injection h1 with e1 e2 e3
  subst e1 e3
  have hl : (l.take k).length = k := by rw [List.length_take]; omega
  refine ⟨_, c, by rw [hl], by omega, h3, fun h0 => ?_⟩
  obtain ⟨g', off', e, hB⟩ := h4 (fun e => h0 (by rw [e]; simp))
  simp only [Option.some.injEq, Addr.mk.injEq, and_true] at e
  obtain ⟨rfl, rfl⟩ := e
  refine ⟨g, off, rfl, hB.1, hB.2.1, fun j hj => ?_⟩
  rw [hl] at hj
  have := hB.2.2 j (by omega)
  rw [this, take_getD _ _ _ hj]
theorem rsplit_head {g off n c : Nat} {b : List Int} {w : World} (hn : b.length = n) (hs : Sl w (.slice (some ⟨g, off, none⟩) n c) b) (hb : ∀ x ∈ b, 0 ≤ x ∧ x < 256) (h1 : n ≤ 65536) (h2 : 8 ≤ n) (hc : n ≤ c) (hh : b.take 8 ≠ hd8) :
    Calls Try.prog 12 #[.slice (some ⟨g, off, none⟩) n c] w (STold (split7 b) w) := by
  have HN := Lib.hid hn
  have HV : Hid (split7 b = ([], 3)) := by show _ = _; unfold split7; rw [hn, if_neg (by omega), if_neg (by omega), if_pos hh]
  have hst := sl_take hs (k := 8) (by omega)
  have e1 : ∀ W, Below w.heap.size w W → (convert 22 9 (.slice (some ⟨g, off, none⟩) 8 c)).run Try.prog W = .ok (.string (strOfNums (b.take 8))) W := fun W hW => sl_txt (hst.keep hW)
  have hne : ((strOfNums (b.take 8)).toList == (strOfNums hd8).toList) = false := by
    rw [Bool.eq_false_iff]
    intro e
    exact hh (txt_eq (fun x hx => hb x (List.mem_of_mem_take hx)) hd8_byte (by simpa using e))
  have HE1 := Lib.hid e1
  have t1 : decide ((65536 : Int) < (n : Int)) = false := decide_eq_false (by omega)
  have t1' : decide (65536 < n) = false := decide_eq_false (by omega)
  have t2 : decide ((n : Int) < 8) = false := decide_eq_false (by omega)
  have t2' : decide (n < 8) = false := decide_eq_false (by omega)
  have i1 : (8 : Int) ≤ (c : Int) := by omega
  have i1' : 8 ≤ c := by omega
  generalize strOfNums (b.take 8) = S1 at HE1 hne
  clear e1 hst hs hb hh hn
  go_enter Try.func12, Try.ntmps12
  go_wp2_with fail
  have e1 := HE1.out _ (drewB w)
  go_region_law (go_simp; go_at_call 25; refine (rhead_any w.drew).mono ?_; rintro en w1 ⟨⟨vh, rfl, hoh⟩, hbh⟩; obtain ⟨⟨gh, ch, hvh⟩, _⟩ := id hoh; rw [show hd8.length = 8 from rfl] at hvh; subst hvh; have HB1 := Lib.hid ((drewB w).trans hbh); have e2 : (convert 22 9 (.slice (some ⟨gh, 0, none⟩) 8 ch)).run Try.prog w1 = .ok (.string (strOfNums hd8)) w1 := sl_txt (own_sl8 hoh); have e3 := HE1.out _ HB1.out; clear hoh hbh)
  all_goals (
    go_wp2_with fail
    exact bodyPost_ret (v := .tuple #[.slice none 0 0, .int .i64 3]) (by simp [results, Try.results12, go_sem]) rfl ⟨_, [], by rw [HV.out], ScRow.nil _, by rw [HV.out]; rfl, HB1.out⟩)
end Go.Proofs.Ytkdnhhhgggmapaa.Sec
