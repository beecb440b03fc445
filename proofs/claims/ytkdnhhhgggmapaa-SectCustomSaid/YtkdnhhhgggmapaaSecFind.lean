/- The document's first bytes, Find and Few, walked. -/
import Derived.Test.YtkdnhhhgggmapaaSecBase
namespace Go.Proofs.Ytkdnhhhgggmapaa.Sec
open Go.RowKit Utf
set_option maxRecDepth 100000
set_option maxHeartbeats 2000000
set_option linter.unusedVariables false
/-- A module's first eight bytes. -/
def hd8 : List Int := [0, 97, 115, 109, 1, 0, 0, 0]
theorem hd8_own (w : World) : Leb.Own (w.alloc (.cells #[.int .u8 0, .int .u8 97, .int .u8 115, .int .u8 109, .int .u8 1, .int .u8 0, .int .u8 0, .int .u8 0] 5)) w.heap.size (.slice (some ⟨w.heap.size, 0, none⟩) 8 8) hd8 := by
  have hp : (w.alloc (.cells #[.int .u8 0, .int .u8 97, .int .u8 115, .int .u8 109, .int .u8 1, .int .u8 0, .int .u8 0, .int .u8 0] 5)).heap[w.heap.size]? = some (.cells #[.int .u8 0, .int .u8 97, .int .u8 115, .int .u8 109, .int .u8 1, .int .u8 0, .int .u8 0, .int .u8 0] 5 (0, 0)) := by
    show (w.heap.push _)[w.heap.size]? = _
    simp
  exact ⟨⟨_, _, rfl⟩, rfl, .inr ⟨_, _, _, rfl, Nat.le_refl _, hp, Nat.le_refl _, by simp [maxLen], by simp, by simp [hd8, Leb.vb]⟩⟩
theorem rhead_any (w : World) : Calls Try.prog 25 #[] w fun e w' => (∃ v, e = .returned v ∧ Leb.Own w' w.heap.size v hd8) ∧ Below w.heap.size w w' := by
  have HO := Lib.hid (hd8_own w)
  have HB := Lib.hid ((Below.refl w.heap.size w).alloc (Nat.le_refl _) (.cells #[.int .u8 0, .int .u8 97, .int .u8 115, .int .u8 109, .int .u8 1, .int .u8 0, .int .u8 0, .int .u8 0] 5))
  go_enter Try.func25, Try.ntmps25
  go_wp2_with fail
  exact bodyPost_ret (v := .slice (some ⟨w.heap.size, 0, none⟩) 8 8) (by simp [results, Try.results25, go_sem]) rfl ⟨⟨_, rfl, HO.out⟩, HB.out⟩
/-- The first of an ID. -/
def fnd (l : List (Sct × Value)) (id : Int) : Option (Sct × Value) := l.find? fun p => p.1.1 == id
def fndV : Option (Sct × Value) → Value
  | some p => p.2
  | none => .slice none 0 0
theorem fnd_drop {l : List (Sct × Value)} {id : Int} {i : Nat} {p : Sct × Value} (h : l[i]? = some p) : fnd (l.drop i) id = if p.1.1 == id then some p else fnd (l.drop (i + 1)) id := by
  obtain ⟨h1, h2⟩ := List.getElem?_eq_some_iff.1 h
  unfold fnd
  rw [List.drop_eq_getElem_cons h1, List.find?_cons, h2]
  cases p.1.1 == id <;> rfl
theorem rfind_any {l : List (Sct × Value)} {A : Option Addr} {n c : Nat} {w : World} (d : Int) (hn : l.length = n) (hr : ScRow w (.slice A n c) l) :
    Calls Try.prog 17 #[.slice A n c, .int .i64 d] w fun e w' => e = .returned (.tuple #[fndV (fnd l d), .bool (fnd l d).isSome]) ∧ w' = w := by
  have hbig : n ≤ 9223372036854775807 := by
    obtain ⟨⟨A', c', h1, h2, h3, _⟩, _⟩ := id hr
    omega
  have HN := Lib.hid hn
  have HR := Lib.hid hr
  clear hn hr
  go_enter Try.func17, Try.ntmps17
  go_wp2_with fail
  go_loopw [6] (fun i' wr => ∃ i : Nat, i' = .int .i64 (i : Int) ∧ i ≤ n ∧ fnd l d = fnd (l.drop i) d ∧ wr = w) (fun i' _ => n - (intOf i').toNat)
  case atStart => exact ⟨0, by go_num, by omega, rfl, rfl⟩
  case round =>
    obtain ⟨i, rfl, hi, hF, rfl⟩ := hrel
    have HF := Lib.hid hF
    clear hF
    by_cases hlt : i < n
    · obtain ⟨y, hy⟩ : ∃ y, l[i]? = some y := ⟨_, List.getElem?_eq_getElem (by rw [HN.out]; exact hlt)⟩
      obtain ⟨g, off, rfl, hC, hO⟩ := HR.out.at_ hy
      have HFD := Lib.hid (fnd_drop (id := d) hy)
      obtain ⟨P, cd, hp, _⟩ := id hO.1
      obtain ⟨⟨x, B⟩, ov⟩ := y
      obtain ⟨q1, q2⟩ := hC
      simp only at q1 q2 hp HFD
      obtain ⟨k, hk⟩ : ∃ k, B.length = k := ⟨_, rfl⟩
      rw [hk] at hp
      subst hp
      clear hy hO hk
      have i1 : (0 : Int) ≤ (i : Int) := by omega
      have i2 : (i : Int) < (n : Int) := by omega
      have hw1 : IntKind.i64.wrap ((i : Int) + 1) = (i : Int) + 1 := IntWalk.i64_in _ (by omega)
      cases hq : (x == d) with
      | true =>
        have HV : Hid (fnd l d = some ((x, B), .slice P k cd)) := by
          show _ = _
          rw [HF.out, HFD.out, if_pos hq]
        go_wp2_with fail
        exact bodyPost_ret (v := .tuple #[.slice P k cd, .bool true]) (by simp [results, Try.results17, go_sem]) rfl ⟨by rw [HV.out]; rfl, rfl⟩
      | false =>
        have HV : Hid (fnd l d = fnd (l.drop (i + 1)) d) := by
          show _ = _
          rw [HF.out, HFD.out, if_neg (by rw [hq]; decide)]
        go_wp2_with fail
        go_roundw
        case rel => exact ⟨i + 1, by go_num, hlt, HV.out, by first | rfl | trivial⟩
        case measure => simp [intOf]; omega
    · have hin : i = n := by omega
      subst hin
      have HV : Hid (fnd l d = none) := by
        show _ = _
        rw [HF.out, List.drop_eq_nil_of_le (by rw [HN.out]; exact Nat.le_refl _)]
        rfl
      go_wp2_with fail
      exact bodyPost_ret (v := .tuple #[.slice none 0 0, .bool false]) (by simp [results, Try.results17, go_sem]) rfl ⟨by rw [HV.out]; rfl, rfl⟩
/-- Few, of few bytes. -/
def FewS (l : List (Sct × Value)) : Prop := l.length ≤ 30 ∧ ∀ p ∈ l, p.1.2.length ≤ 70000
/-- A yes or no. -/
def YesNo (P : Prop) (e : Ending) : Prop := ∃ b : Bool, e = .returned (.bool b) ∧ (b = true ↔ P)
theorem fews_any {l : List (Sct × Value)} {A : Option Addr} {n c : Nat} {w : World} (hn : l.length = n) (hr : ScRow w (.slice A n c) l) :
    Calls Try.prog 10 #[.slice A n c] w fun e w' => YesNo (FewS l) e ∧ w' = w := by
  have HN := Lib.hid hn
  have HR := Lib.hid hr
  clear hn hr
  by_cases h30 : 30 < n
  · have t1 : decide ((30 : Int) < (n : Int)) = true := decide_eq_true (by omega)
    have t1' : decide (30 < n) = true := decide_eq_true h30
    have HNO : Hid (¬ FewS l) := fun h => by have := h.1; rw [HN.out] at this; omega
    clear h30
    go_enter Try.func10, Try.ntmps10
    go_wp2_with fail
    exact bodyPost_ret (v := .bool false) (by simp [results, Try.results10, go_sem]) rfl ⟨⟨false, rfl, by simpa using HNO.out⟩, rfl⟩
  · have t1 : decide ((30 : Int) < (n : Int)) = false := decide_eq_false (by omega)
    have t1' : decide (30 < n) = false := decide_eq_false h30
    go_enter Try.func10, Try.ntmps10
    go_wp2_with fail
    go_loopw [3] (fun i' wr => ∃ i : Nat, i' = .int .i64 (i : Int) ∧ i ≤ n ∧ (∀ j, j < i → ∀ p, l[j]? = some p → p.1.2.length ≤ 70000) ∧ wr = w) (fun i' _ => n - (intOf i').toNat)
    case atStart => exact ⟨0, by go_num, by omega, fun j hj => absurd hj (by omega), rfl⟩
    case round =>
      obtain ⟨i, rfl, hi, hF, rfl⟩ := hrel
      have HALL := Lib.hid hF
      clear hF
      by_cases hlt : i < n
      · obtain ⟨y, hy⟩ : ∃ y, l[i]? = some y := ⟨_, List.getElem?_eq_getElem (by rw [HN.out]; exact hlt)⟩
        have HY := Lib.hid hy
        obtain ⟨g, off, rfl, hC, hO⟩ := HR.out.at_ hy
        obtain ⟨P, cd, hp, _⟩ := id hO.1
        obtain ⟨⟨x, B⟩, ov⟩ := y
        obtain ⟨q1, q2⟩ := hC
        simp only at q1 q2 hp
        obtain ⟨k, hk⟩ : ∃ k, B.length = k := ⟨_, rfl⟩
        rw [hk] at hp
        subst hp
        have HK := Lib.hid hk
        clear hy hO hk
        have i1 : (0 : Int) ≤ (i : Int) := by omega
        have i2 : (i : Int) < (n : Int) := by omega
        have hw1 : IntKind.i64.wrap ((i : Int) + 1) = (i : Int) + 1 := IntWalk.i64_in _ (by omega)
        by_cases hq : 70000 < k
        · have t2 : decide ((70000 : Int) < (k : Int)) = true := decide_eq_true (by omega)
          have t2' : decide (70000 < k) = true := decide_eq_true hq
          have HNO : Hid (¬ FewS l) := fun h => by have := h.2 _ (List.mem_of_getElem? HY.out); simp only at this; rw [HK.out] at this; omega
          clear hq
          go_wp2_with fail
          exact bodyPost_ret (v := .bool false) (by simp [results, Try.results10, go_sem]) rfl ⟨⟨false, rfl, by simpa using HNO.out⟩, rfl⟩
        · have t2 : decide ((70000 : Int) < (k : Int)) = false := decide_eq_false (by omega)
          have t2' : decide (70000 < k) = false := decide_eq_false hq
          have HQ : Hid (∀ j, j < i + 1 → ∀ p, l[j]? = some p → p.1.2.length ≤ 70000) := fun j hj p hp => by
            by_cases e : j = i
            · subst e
              rw [HY.out] at hp
              rw [← Option.some.inj hp]
              simp only
              rw [HK.out]
              omega
            · exact HALL.out j (by omega) p hp
          clear hq
          go_wp2_with fail
          go_roundw
          case rel => exact ⟨i + 1, by go_num, hlt, HQ.out, by first | rfl | trivial⟩
          case measure => simp [intOf]; omega
      · have hin : i = n := by omega
        subst hin
        have HY : Hid (FewS l) := ⟨by rw [HN.out]; omega, fun p hp => by
          obtain ⟨j, hj⟩ := List.getElem?_of_mem hp
          exact HALL.out j (by rw [← HN.out]; exact (List.getElem?_eq_some_iff.1 hj).1) p hj⟩
        go_wp2_with fail
        exact bodyPost_ret (v := .bool true) (by simp [results, Try.results10, go_sem]) rfl ⟨⟨true, rfl, by simpa using HY.out⟩, rfl⟩
end Go.Proofs.Ytkdnhhhgggmapaa.Sec
