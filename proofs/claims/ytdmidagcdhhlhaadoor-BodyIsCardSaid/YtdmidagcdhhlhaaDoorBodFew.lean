/- Few instructions, by the document, walked. -/
import Derived.Test.YtdmidagcdhhlhaaDoorBodMatchs
namespace Go.Proofs.YtdmidagcdhhlhaaDoor.Bod
open Go.RowKit Ints Typ Ins
set_option maxRecDepth 100000
set_option maxHeartbeats 1000000
set_option linter.unusedVariables false

/-- Not many, none with many labels. -/
def FewB (l : List (Ins × Value)) (m : Int) : Prop := (l.length : Int) ≤ m ∧ ∀ p ∈ l, p.1.L.length ≤ 70
theorem few_any {l : List (Ins × Value)} {A : Option Addr} {n c : Nat} {w : World} (m : Int) (hn : l.length = n) (hr : InRow w (.slice A n c) l) :
    Calls Tryd.prog 10 #[.slice A n c, .int .i64 m] w fun e w' => (∃ b, e = .returned (.bool b) ∧ (b = true ↔ FewB l m)) ∧ w' = w := by
  have hbig : n ≤ 9223372036854775807 := by
    obtain ⟨⟨A, c', h1, h2, h3, _⟩, _⟩ := id hr
    injection h1 with _ h4 h5
    omega
  have HR := Lib.hid hr
  have HN := Lib.hid hn
  clear hr hn
  by_cases hm : m < (n : Int)
  · have t1 : decide (m < (n : Int)) = true := decide_eq_true hm
    have HNO : Hid (¬ FewB l m) := fun h => by have := h.1; rw [HN.out] at this; omega
    clear hm
    go_enter Tryd.func10, Tryd.ntmps10
    go_wp2_with fail
    exact bodyPost_ret (v := .bool false) (by simp [results, Tryd.results10, go_sem]) rfl ⟨by first | exact ⟨false, rfl, by simpa using HNO.out⟩ | exact .inl ⟨rfl, HNO.out⟩, rfl⟩
  · have t1 : decide (m < (n : Int)) = false := decide_eq_false hm
    have HM : Hid ((n : Int) ≤ m) := by show _ ≤ _; omega
    clear hm
    go_enter Tryd.func10, Tryd.ntmps10
    go_wp2_with fail
    clear t1
    go_loop [5] (fun i' => ∃ i : Nat, i' = .int .i64 (i : Int) ∧ i ≤ n ∧ ∀ q, q < i → ∀ p, l[q]? = some p → p.1.L.length ≤ 70) (fun i' => n - (intOf i').toNat)
    case atStart => exact ⟨0, by go_num, by omega, fun q hq => absurd hq (by omega)⟩
    case round =>
      obtain ⟨i, rfl, hi, hall⟩ := hrel
      have HALL := Lib.hid hall
      clear hall
      by_cases hlt : i < n
      · obtain ⟨y, hy⟩ : ∃ y, l[i]? = some y := ⟨_, List.getElem?_eq_getElem (by rw [HN.out]; exact hlt)⟩
        obtain ⟨g, off, hA, hC, hOk⟩ := HR.out.at_ hy
        subst hA
        obtain ⟨PL, cL, hpo, _⟩ := id hOk.1
        have HY := Lib.hid hy
        obtain ⟨x, ov⟩ := y
        simp only at hpo
        obtain ⟨nL, hnL⟩ : ∃ nL, x.L.length = nL := ⟨_, rfl⟩
        have HNL := Lib.hid hnL
        rw [hnL] at hpo
        subst hpo
        obtain ⟨q1, q2, q3, q4, q5⟩ := hC
        clear hOk hy hnL q1 q2 q3 q4
        simp only at q5
        have hin1 : (0 : Int) ≤ (i : Int) := by omega
        have hin2 : (i : Int) < (n : Int) := by omega
        have hw1 : IntKind.i64.wrap ((i : Int) + 1) = (i : Int) + 1 := IntWalk.i64_in _ (by omega)
        by_cases h70 : nL ≤ 70
        · have t2 : decide ((70 : Int) < (nL : Int)) = false := decide_eq_false (by omega)
          have HNX : Hid (∀ q, q < i + 1 → ∀ p, l[q]? = some p → p.1.L.length ≤ 70) := fun q hq p hp => by
            by_cases e : q = i
            · subst e
              have e2 := Option.some.inj (HY.out.symm.trans hp)
              subst e2
              show x.L.length ≤ 70
              rw [HNL.out]
              exact h70
            · exact HALL.out q (by omega) p hp
          clear h70
          go_wp2_with fail
          go_round
          case rel => exact ⟨i + 1, by go_num, hlt, HNX.out⟩
          case measure => simp [intOf]; omega
        · have t2 : decide ((70 : Int) < (nL : Int)) = true := decide_eq_true (by omega)
          have HNO : Hid (¬ FewB l m) := fun h => by
            have := h.2 _ (List.mem_of_getElem? HY.out)
            simp only at this
            rw [HNL.out] at this
            exact h70 this
          clear h70
          go_wp2_with fail
          exact bodyPost_ret (v := .bool false) (by simp [results, Tryd.results10, go_sem]) rfl ⟨by first | exact ⟨false, rfl, by simpa using HNO.out⟩ | exact .inl ⟨rfl, HNO.out⟩, rfl⟩
      · obtain rfl : i = n := by omega
        have HYES : Hid (FewB l m) := ⟨by rw [HN.out]; exact HM.out, fun p hp => by
          obtain ⟨q, hq⟩ := List.getElem?_of_mem hp
          exact HALL.out q (by have := (List.getElem?_eq_some_iff.1 hq).1; rwa [HN.out] at this) p hq⟩
        clear hlt
        go_wp2_with fail
        exact bodyPost_ret (v := .bool true) (by simp [results, Tryd.results10, go_sem]) rfl ⟨by first | exact ⟨true, rfl, by simpa using HYES.out⟩ | exact .inr ⟨rfl, HYES.out⟩, rfl⟩
end Go.Proofs.YtdmidagcdhhlhaaDoor.Bod
