/- The program's small functions of sections, walked: a clone, a name's fault, what rises, the head. -/
import Derived.Test.YtkdnhhhgggmapaaSecSplitC
import Derived.Lib.LazyBuf
namespace Go.Proofs.Ytkdnhhhgggmapaa.Sec
open Go.RowKit Utf
set_option maxRecDepth 100000
set_option maxHeartbeats 2000000
set_option linter.unusedVariables false
/-- Clone: nil of nil, else bytes of the call's own. -/
def Cloned (w : World) (D : List Int) (e : Ending) (w' : World) : Prop := (∃ g n c, e = .returned (.slice g n c) ∧ w'.ownsRow w.heap.size 5 1 (.slice g n c) D.length (Leb.vb D) ∧ n = D.length) ∧ Below w.heap.size w w'
theorem pclone_any {A : Option Addr} {n c : Nat} {D : List Int} {w : World} (hn : D.length = n) (hA : Leb.Byt w w.heap.size A D) (hl : n ≤ 1000000) : Calls Try.prog 32 #[.slice A n c] w (Cloned w D) := by
  rcases A with _ | ad
  · have hD : D = [] := by
      rcases D with _ | ⟨x, D⟩
      · rfl
      · obtain ⟨ad, h, _⟩ := hA (by simp)
        cases h
    subst hD
    clear hA hl hn
    have heq : ∀ W, (binOp .eql 22 (.slice none n c) (.slice none 0 0)).run Try.prog W = .ok (.bool true) W := fun W => run_eql_slice_nil W _ _ none n c Try.underlying22
    go_enter Try.func32, Try.ntmps32
    go_wp2_with fail
    exact bodyPost_ret (v := .slice none 0 0) (by simp [results, Try.results32, go_sem]) rfl ⟨⟨_, _, _, rfl, ⟨rfl, .inl ⟨rfl, rfl⟩⟩, rfl⟩, Below.refl _ _⟩
  · have HA := Lib.hid hA
    have HN := Lib.hid hn
    have HW := Lib.hid ((Below.refl w.heap.size w).alloc (Nat.le_refl _) (.cells #[] 5))
    have heq : ∀ W, (binOp .eql 22 (.slice (some ad) n c) (.slice none 0 0)).run Try.prog W = .ok (.bool false) W := fun W => run_eql_slice_nil W _ _ (some ad) n c Try.underlying22
    clear hA hn
    go_enter Try.func32, Try.ntmps32
    go_wp2_with (at_builtin; refine stop_ ?_)
    refine Lib.hid ?_
    refine Leb.wp_bytes _ rfl (.tmp 5) (.tmp 6) rfl w.heap.size w.heap.size _ [] D rfl (Leb.own_none w) (some ad) c ?_ (HA.out.keep HW.out) ?_ HW.out.size ?_
    focus (rw [HN.out]; rfl)
    focus (rw [HN.out]; simp; omega)
    intro v1 w1 ho1 hb1
    rw [List.nil_append] at ho1
    obtain ⟨⟨g1, c1, rfl⟩, ho2⟩ := ho1
    have HO := Lib.hid ho2
    have HB := Lib.hid (HW.out.trans hb1)
    clear ho2 hb1
    rw [HN.out] at HO ⊢
    go_wp2_with fail
    exact bodyPost_ret (v := .slice (some ⟨g1, 0, none⟩) n c1) (by simp [results, Try.results32, go_sem]) rfl ⟨⟨_, _, _, rfl, by rw [HN.out]; exact HO.out, HN.out.symm⟩, HB.out⟩
/-- A section's fault. -/
noncomputable def nf (p : Sct) : Int := if p.1 = 0 then (nm p.2 0).2.2 else 0
theorem pnf_any {x : Int} {A : Option Addr} {n c : Nat} {D : List Int} {w : World} (hn : D.length = n) (hs : Sl w (.slice A n c) D) (hb : ∀ y ∈ D, 0 ≤ y ∧ y < 256) (hl : n ≤ 1000000) :
    Calls Try.prog 36 #[.agg #[.int .i64 x, .slice A n c]] w fun e w' => e = .returned (.int .i64 (nf (x, D))) ∧ Below w.heap.size w w' := by
  have HW := Lib.hid ((Below.refl w.heap.size w).alloc (Nat.le_refl _) (.cells #[.int .i64 x, .slice A n c] 40))
  have HNM := Lib.hid (pname_any (.slice A n c) D 0 _ hb (hs.keep HW.out) (by omega))
  by_cases hx : x = 0
  · subst hx
    have HV : Hid (nf (0, D) = (nm D 0).2.2) := by show _ = _; unfold nf; rw [if_pos rfl]
    rw [HV.out]
    obtain ⟨⟨N0, N1, E⟩, hNM⟩ : ∃ y, nm D 0 = y := ⟨_, rfl⟩
    rw [hNM] at HNM ⊢
    clear hNM hs hb hl hn HV
    go_enter Try.func36, Try.ntmps36
    go_wp2_with fail
    refine HNM.out.mono ?_
    rintro en w1 ⟨rfl, hb1⟩
    have HB1 := Lib.hid (HW.out.trans (hb1.mono HW.out.size))
    clear hb1
    go_wp2_with fail
    exact bodyPost_ret (v := .int .i64 E) (by simp [results, Try.results36, go_sem]) rfl ⟨rfl, HB1.out⟩
  · have HV : Hid (nf (x, D) = 0) := by show _ = _; unfold nf; rw [if_neg hx]
    rw [HV.out]
    have hx1 : (x != 0) = true := by simpa using hx
    clear hs hb hl hn HV HNM
    go_enter Try.func36, Try.ntmps36
    go_wp2_with fail
    exact bodyPost_ret (v := .int .i64 0) (by simp [results, Try.results36, go_sem]) rfl ⟨rfl, HW.out⟩
/-- Does an ID rise? -/
def ris (x top : Int) : Bool := (x == 0) || decide (top < x)
theorem prises_any (x top : Int) (w : World) : Calls Try.prog 24 #[.int .i64 x, .int .i64 top] w fun e w' => e = .returned (.bool (ris x top)) ∧ w' = w := by
  unfold ris
  cases hx : (x == 0) <;> cases ht : decide (top < x)
  all_goals (
    go_enter Try.func24, Try.ntmps24
    go_wp2_with fail
    first
    | exact bodyPost_ret (v := .bool true) (by simp [results, Try.results24, go_sem]) rfl ⟨rfl, rfl⟩
    | exact bodyPost_ret (v := .bool false) (by simp [results, Try.results24, go_sem]) rfl ⟨rfl, rfl⟩)
/-- Why bytes are no module's, by their head. -/
def hf (b : List Int) : Int := if 65536 < b.length then 4 else if b.length < 8 then 2 else if b.take 8 ≠ hd8 then 3 else 0
theorem hd8_str : strOfNums hd8 = { data := #[0, 97, 115, 109, 1, 0, 0, 0] } := by decide
theorem hd8_list : ({ data := #[0, 97, 115, 109, 1, 0, 0, 0] } : ByteArray).toList = ([0, 97, 115, 109, 1, 0, 0, 0] : List UInt8) := by first | rfl | simp | decide
theorem phead_any {A : Option Addr} {n c : Nat} {b : List Int} {w : World} (hn : b.length = n) (hs : Sl w (.slice A n c) b) (hb : ∀ x ∈ b, 0 ≤ x ∧ x < 256) : Calls Try.prog 22 #[.slice A n c] w fun e w' => e = .returned (.int .i64 (hf b)) ∧ Below w.heap.size w w' := by
  by_cases h1 : 65536 < n
  · have HV : Hid (hf b = 4) := by show _ = _; unfold hf; rw [hn, if_pos h1]
    rw [HV.out]
    have t1 : decide ((65536 : Int) < (n : Int)) = true := decide_eq_true (by omega)
    have t1' : decide (65536 < n) = true := decide_eq_true h1
    clear hs hb hn h1 HV
    go_enter Try.func22, Try.ntmps22
    go_wp2_with fail
    exact bodyPost_ret (v := .int .i64 4) (by simp [results, Try.results22, go_sem]) rfl ⟨rfl, Below.refl _ _⟩
  · have t1 : decide ((65536 : Int) < (n : Int)) = false := decide_eq_false (by omega)
    have t1' : decide (65536 < n) = false := decide_eq_false h1
    by_cases h2 : n < 8
    · have HV : Hid (hf b = 2) := by show _ = _; unfold hf; rw [hn, if_neg h1, if_pos h2]
      rw [HV.out]
      have t2 : decide ((n : Int) < 8) = true := decide_eq_true (by omega)
      have t2' : decide (n < 8) = true := decide_eq_true h2
      clear hs hb hn h1 h2 HV
      go_enter Try.func22, Try.ntmps22
      go_wp2_with fail
      exact bodyPost_ret (v := .int .i64 2) (by simp [results, Try.results22, go_sem]) rfl ⟨rfl, Below.refl _ _⟩
    · have t2 : decide ((n : Int) < 8) = false := decide_eq_false (by omega)
      have t2' : decide (n < 8) = false := decide_eq_false h2
      obtain ⟨A', c', e1, hc, hm, h4⟩ := id hs
      obtain ⟨g, off, rfl, _⟩ := h4 (fun e => by rw [e] at hn; simp at hn; omega)
      injection e1 with e1 hnb e3
      subst e1 e3
      clear hnb
      have hst := sl_take hs (k := 8) (by omega)
      have e1 : ∀ W, Below w.heap.size w W → (convert 22 9 (.slice (some ⟨g, off, none⟩) 8 c)).run Try.prog W = .ok (.string (strOfNums (b.take 8))) W := fun W hW => sl_txt (hst.keep hW)
      have e2 := e1 w (Below.refl _ _)
      have i1 : (8 : Int) ≤ (c : Int) := by omega
      have i1' : 8 ≤ c := by omega
      by_cases hh : b.take 8 = hd8
      · have HV : Hid (hf b = 0) := by show _ = _; unfold hf; rw [hn, if_neg h1, if_neg h2, if_neg (by simp [hh])]
        rw [HV.out]
        rw [hh, hd8_str] at e2
        clear hs hb hn h1 h2 HV hst e1 h4 hh
        go_enter Try.func22, Try.ntmps22
        go_wp2_with fail
        exact bodyPost_ret (v := .int .i64 0) (by simp [results, Try.results22, go_sem]) rfl ⟨rfl, Below.refl _ _⟩
      · have HV : Hid (hf b = 3) := by show _ = _; unfold hf; rw [hn, if_neg h1, if_neg h2, if_pos hh]
        rw [HV.out]
        have hne : ((strOfNums (b.take 8)).toList == (strOfNums hd8).toList) = false := by
          rw [Bool.eq_false_iff]
          intro e
          exact hh (txt_eq (fun x hx => hb x (List.mem_of_mem_take hx)) hd8_byte (by simpa using e))
        rw [hd8_str, hd8_list] at hne
        generalize strOfNums (b.take 8) = S1 at e2 hne
        clear hs hb hn h1 h2 HV hst e1 h4 hh
        go_enter Try.func22, Try.ntmps22
        go_wp2_with fail
        exact bodyPost_ret (v := .int .i64 3) (by simp [results, Try.results22, go_sem]) rfl ⟨rfl, Below.refl _ _⟩
end Go.Proofs.Ytkdnhhhgggmapaa.Sec
