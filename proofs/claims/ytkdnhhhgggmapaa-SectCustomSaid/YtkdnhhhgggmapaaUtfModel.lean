/- What a range over a string tells of its bytes at a place: the number that they begin with, or 65533 and one byte. -/
import Derived.Test.YtkdnhhhgggmapaaUtfSpec
import Derived.WalkKit
namespace Go.Proofs.Ytkdnhhhgggmapaa.Utf
open Go
set_option maxRecDepth 100000

/-- The bytes of a string from a place on. -/
def rest (s : ByteArray) (i : Nat) : List Nat := (s.data.toList.drop i).map UInt8.toNat
def bl (s : ByteArray) : List Int := s.data.toList.map fun x => (x.toNat : Int)
theorem bl_len (s : ByteArray) : (bl s).length = s.size := by
  unfold bl
  rw [List.length_map, Array.length_toList]
  rfl
theorem bl_byte (s : ByteArray) : ∀ x ∈ bl s, 0 ≤ x ∧ x < 256 := by
  intro x hx
  obtain ⟨y, _, rfl⟩ := List.mem_map.1 hx
  have := y.toNat_lt
  omega
theorem bl_drop (s : ByteArray) (i : Nat) : (bl s).drop i = (rest s i).map fun n : Nat => (n : Int) := by
  unfold bl rest
  rw [← List.map_drop, List.map_map]
  rfl
theorem rest_len (s : ByteArray) (i : Nat) : (rest s i).length = s.size - i := by
  unfold rest
  rw [List.length_map, List.length_drop, Array.length_toList]
  rfl
theorem rest_byte (s : ByteArray) (i : Nat) : ∀ x ∈ rest s i, x < 256 := by
  intro x hx
  obtain ⟨y, _, rfl⟩ := List.mem_map.1 hx
  exact y.toNat_lt
theorem rest_at (s : ByteArray) (i k : Nat) : (s.get! (i + k)).toNat = (rest s i).getD k 0 := by
  obtain ⟨d⟩ := s
  show (d[i + k]!).toNat = ((d.toList.drop i).map UInt8.toNat).getD k 0
  rw [List.getD_eq_getElem?_getD, List.getElem?_map, List.getElem?_drop, Array.getElem?_toList]
  by_cases h : i + k < d.size
  · rw [getElem!_pos d (i + k) h, Array.getElem?_eq_getElem h]
    rfl
  · rw [getElem!_neg d (i + k) h, Array.getElem?_eq_none (by omega)]
    rfl
theorem valid_iff (c : Nat) : Utf8.valid (c : Int) = true ↔ okR (c : Int) := by
  unfold Utf8.valid okR
  simp only [Bool.or_eq_true, Bool.and_eq_true, decide_eq_true_eq]
  omega
def mp (r : List Nat) : List Int := r.map fun n : Nat => (n : Int)
/-- By the bytes that stand at the place. -/
theorem stands (s : ByteArray) (i : Nat) : ∀ k, decide (i + k < s.size) = decide (k < (rest s i).length) := fun k => by
  rw [rest_len]
  by_cases h : i + k < s.size
  · rw [decide_eq_true h, decide_eq_true (by omega)]
  · rw [decide_eq_false h, decide_eq_false (by omega)]
theorem told_some (s : ByteArray) (i : Nat) (v : Int) (t : List Int) (hv : okR v) (h : mp (rest s i) = enc v ++ t) : Utf8.decode s i = (v.toNat, (enc v).length) := by
  unfold Utf8.decode
  simp only [rest_at, stands]
  revert h
  generalize rest s i = r
  intro h
  have hok := hv
  obtain ⟨v0, v1, v2⟩ := hv
  rcases enc_ways v with ⟨g, e⟩ | ⟨g, g2, e⟩ | ⟨g, g2, e⟩ | ⟨g, e⟩ <;> rw [e] at h ⊢
  · match r, h with
    | [], h => simp [mp] at h
    | a :: r, h =>
      have h1 : (a : Int) = v := by simpa [mp] using (List.cons.inj h).1
      refine (if_pos (show a < 128 by omega)).trans ?_
      show (a, 1) = (v.toNat, 1)
      rw [← h1]; rfl
  · match r, h with
    | [], h => simp [mp] at h
    | [_], h => simp [mp] at h
    | a :: b :: r, h =>
      obtain ⟨h1, h2, _⟩ : (a : Int) = 192 + v / 64 ∧ (b : Int) = 128 + v % 64 ∧ mp r = t := by simpa [mp] using h
      have e1 : (a / 32 == 6 && (decide (1 < (a :: b :: r).length) && b / 64 == 2)) = true := by
        simp only [Bool.and_eq_true, beq_iff_eq, decide_eq_true_eq, List.length_cons]; omega
      refine (if_neg (show ¬ a < 128 by omega)).trans ((if_pos e1).trans ?_)
      show (if a % 32 * 64 + b % 64 ≥ 128 then (a % 32 * 64 + b % 64, 2) else (65533, 1)) = (v.toNat, 2)
      rw [if_pos (by omega), show a % 32 * 64 + b % 64 = v.toNat from by omega]
  · match r, h with
    | [], h => simp [mp] at h
    | [_], h => simp [mp] at h
    | [_, _], h => simp [mp] at h
    | a :: b :: c :: r, h =>
      obtain ⟨h1, h2, h3, _⟩ : (a : Int) = 224 + v / 4096 ∧ (b : Int) = 128 + v / 64 % 64 ∧ (c : Int) = 128 + v % 64 ∧ mp r = t := by simpa [mp] using h
      have e1 : ¬ (a / 32 == 6 && (decide (1 < (a :: b :: c :: r).length) && b / 64 == 2)) = true := by
        simp only [Bool.and_eq_true, beq_iff_eq, decide_eq_true_eq, List.length_cons]; omega
      have e2 : (a / 16 == 14 && (decide (1 < (a :: b :: c :: r).length) && b / 64 == 2) && (decide (2 < (a :: b :: c :: r).length) && c / 64 == 2)) = true := by
        simp only [Bool.and_eq_true, beq_iff_eq, decide_eq_true_eq, List.length_cons]; omega
      have ev : a % 16 * 4096 + b % 64 * 64 + c % 64 = v.toNat := by omega
      refine (if_neg (show ¬ a < 128 by omega)).trans ((if_neg e1).trans ((if_pos e2).trans ?_))
      show (if (decide (a % 16 * 4096 + b % 64 * 64 + c % 64 ≥ 2048) && Utf8.valid ((a % 16 * 4096 + b % 64 * 64 + c % 64 : Nat) : Int)) = true then (a % 16 * 4096 + b % 64 * 64 + c % 64, 3) else (65533, 1)) = (v.toNat, 3)
      rw [ev, if_pos]
      simp only [Bool.and_eq_true, decide_eq_true_eq]
      exact ⟨by omega, (valid_iff _).2 (by rw [Int.toNat_of_nonneg v0]; exact hok)⟩
  · match r, h with
    | [], h => simp [mp] at h
    | [_], h => simp [mp] at h
    | [_, _], h => simp [mp] at h
    | [_, _, _], h => simp [mp] at h
    | a :: b :: c :: d :: r, h =>
      obtain ⟨h1, h2, h3, h4, _⟩ : (a : Int) = 240 + v / 262144 ∧ (b : Int) = 128 + v / 4096 % 64 ∧ (c : Int) = 128 + v / 64 % 64 ∧ (d : Int) = 128 + v % 64 ∧ mp r = t := by simpa [mp] using h
      have e1 : ¬ (a / 32 == 6 && (decide (1 < (a :: b :: c :: d :: r).length) && b / 64 == 2)) = true := by
        simp only [Bool.and_eq_true, beq_iff_eq, decide_eq_true_eq, List.length_cons]; omega
      have e2 : ¬ (a / 16 == 14 && (decide (1 < (a :: b :: c :: d :: r).length) && b / 64 == 2) && (decide (2 < (a :: b :: c :: d :: r).length) && c / 64 == 2)) = true := by
        simp only [Bool.and_eq_true, beq_iff_eq, decide_eq_true_eq, List.length_cons]; omega
      have e3 : (a / 8 == 30 && (decide (1 < (a :: b :: c :: d :: r).length) && b / 64 == 2) && (decide (2 < (a :: b :: c :: d :: r).length) && c / 64 == 2) && (decide (3 < (a :: b :: c :: d :: r).length) && d / 64 == 2)) = true := by
        simp only [Bool.and_eq_true, beq_iff_eq, decide_eq_true_eq, List.length_cons]; omega
      have ev : a % 8 * 262144 + b % 64 * 4096 + c % 64 * 64 + d % 64 = v.toNat := by omega
      refine (if_neg (show ¬ a < 128 by omega)).trans ((if_neg e1).trans ((if_neg e2).trans ((if_pos e3).trans ?_)))
      show (if (decide (a % 8 * 262144 + b % 64 * 4096 + c % 64 * 64 + d % 64 ≥ 65536) && Utf8.valid ((a % 8 * 262144 + b % 64 * 4096 + c % 64 * 64 + d % 64 : Nat) : Int)) = true then (a % 8 * 262144 + b % 64 * 4096 + c % 64 * 64 + d % 64, 4) else (65533, 1)) = (v.toNat, 4)
      rw [ev, if_pos]
      simp only [Bool.and_eq_true, decide_eq_true_eq]
      exact ⟨by omega, (valid_iff _).2 (by rw [Int.toNat_of_nonneg v0]; exact hok)⟩
theorem told_none (s : ByteArray) (i : Nat) (h0 : rest s i ≠ []) (h : ∀ v t, okR v → mp (rest s i) ≠ enc v ++ t) : Utf8.decode s i = (65533, 1) := by
  unfold Utf8.decode
  simp only [rest_at, stands]
  have hr := rest_byte s i
  revert hr h0 h
  generalize rest s i = r
  intro h0 h hr
  cases r with
  | nil => exact absurd rfl h0
  | cons a r =>
    have ha := hr a (by simp)
    by_cases h1 : a < 128
    · exact absurd (show mp (a :: r) = enc (a : Int) ++ mp r by rw [enc1 (by omega)]; rfl) (h a _ ⟨by omega, by omega, by omega⟩)
    · rw [if_neg (show ¬ (a :: r).getD 0 0 < 128 from h1)]
      split
      · rename_i hc
        simp only [Bool.and_eq_true, beq_iff_eq, decide_eq_true_eq] at hc
        match r, hc, h, hr with
        | [], hc, _, _ => simp at hc
        | b :: r, hc, h, hr =>
          have hc1 : a / 32 = 6 := hc.1
          have hc2 : b / 64 = 2 := hc.2.2
          split
          · rename_i hg
            have hg : a % 32 * 64 + b % 64 ≥ 128 := hg
            refine absurd (show mp (a :: b :: r) = enc ((a % 32 * 64 + b % 64 : Nat) : Int) ++ mp r from ?_) (h _ _ ⟨by omega, by omega, by omega⟩)
            rw [enc2 (by omega) (by omega)]
            show (a : Int) :: (b : Int) :: mp r = _
            simp only [List.cons_append, List.nil_append, List.cons.injEq, and_true]
            omega
          · rfl
      · split
        · rename_i hc
          simp only [Bool.and_eq_true, beq_iff_eq, decide_eq_true_eq] at hc
          match r, hc, h, hr with
          | [], hc, _, _ => simp at hc
          | [_], hc, _, _ => simp at hc
          | b :: c :: r, hc, h, hr =>
            have hc1 : a / 16 = 14 := hc.1.1
            have hc2 : b / 64 = 2 := hc.1.2.2
            have hc3 : c / 64 = 2 := hc.2.2
            split
            · rename_i hg
              simp only [Bool.and_eq_true, decide_eq_true_eq] at hg
              have hg1 : a % 16 * 4096 + b % 64 * 64 + c % 64 ≥ 2048 := hg.1
              have hg2 : okR ((a % 16 * 4096 + b % 64 * 64 + c % 64 : Nat) : Int) := (valid_iff _).1 hg.2
              refine absurd (show mp (a :: b :: c :: r) = enc ((a % 16 * 4096 + b % 64 * 64 + c % 64 : Nat) : Int) ++ mp r from ?_) (h _ _ hg2)
              rw [enc3 (by omega) (by omega)]
              show (a : Int) :: (b : Int) :: (c : Int) :: mp r = _
              simp only [List.cons_append, List.nil_append, List.cons.injEq, and_true]
              omega
            · rfl
        · split
          · rename_i hc
            simp only [Bool.and_eq_true, beq_iff_eq, decide_eq_true_eq] at hc
            match r, hc, h, hr with
            | [], hc, _, _ => simp at hc
            | [_], hc, _, _ => simp at hc
            | [_, _], hc, _, _ => simp at hc
            | b :: c :: d :: r, hc, h, hr =>
              have hc1 : a / 8 = 30 := hc.1.1.1
              have hc2 : b / 64 = 2 := hc.1.1.2.2
              have hc3 : c / 64 = 2 := hc.1.2.2
              have hc4 : d / 64 = 2 := hc.2.2
              split
              · rename_i hg
                simp only [Bool.and_eq_true, decide_eq_true_eq] at hg
                have hg1 : a % 8 * 262144 + b % 64 * 4096 + c % 64 * 64 + d % 64 ≥ 65536 := hg.1
                have hg2 : okR ((a % 8 * 262144 + b % 64 * 4096 + c % 64 * 64 + d % 64 : Nat) : Int) := (valid_iff _).1 hg.2
                refine absurd (show mp (a :: b :: c :: d :: r) = enc ((a % 8 * 262144 + b % 64 * 4096 + c % 64 * 64 + d % 64 : Nat) : Int) ++ mp r from ?_) (h _ _ hg2)
                rw [enc4 (by omega)]
                show (a : Int) :: (b : Int) :: (c : Int) :: (d : Int) :: mp r = _
                simp only [List.cons_append, List.nil_append, List.cons.injEq, and_true]
                omega
              · rfl
          · rfl
/-- A place in a string at which a number's bytes stand; one at which none stand. -/
theorem decode_some (s : ByteArray) (i : Nat) (v : Int) (t : List Int) (hv : okR v) (h : (bl s).drop i = enc v ++ t) : Utf8.decode s i = (v.toNat, (enc v).length) := by
  exact told_some s i v t hv (by rw [← h, bl_drop]; rfl)
theorem decode_none (s : ByteArray) (i : Nat) (hi : i < s.size) (h : ∀ v t, okR v → (bl s).drop i ≠ enc v ++ t) : Utf8.decode s i = (65533, 1) := by
  refine told_none s i (fun e => ?_) (fun v t hv e => h v t hv (by rw [bl_drop]; exact e))
  have := rest_len s i
  rw [e] at this
  simp at this
  omega
end Go.Proofs.Ytkdnhhhgggmapaa.Utf
