/- Plain facts on reading numbers: what is laid is read as it was, by a width that has it; more bytes that say nothing are read, too; a greater width reads the same. -/
import Derived.Test.YtnminpbnlcgblaaLebReads
namespace Go.Proofs.Ytnminpbnlcgblaa.Leb
open Go.RowKit

theorem ten_of {Q : Nat → Prop} (h0 : Q 0) (h1 : Q 7) (h2 : Q 14) (h3 : Q 21) (h4 : Q 28) (h5 : Q 35) (h6 : Q 42) (h7 : Q 49) (h8 : Q 56) (h9 : Q 63) (lo : Nat) (hlo : lo ≤ 63) (hm : lo % 7 = 0) : Q lo := by
  have : lo = 0 ∨ lo = 7 ∨ lo = 14 ∨ lo = 21 ∨ lo = 28 ∨ lo = 35 ∨ lo = 42 ∨ lo = 49 ∨ lo = 56 ∨ lo = 63 := by omega
  rcases this with rfl | rfl | rfl | rfl | rfl | rfl | rfl | rfl | rfl | rfl <;> assumption

theorem pow_split (a b : Nat) (h : a ≤ b) : (2 : Nat) ^ b = 2 ^ a * 2 ^ (b - a) := by rw [← Nat.pow_add, show a + (b - a) = b from by omega]

theorem fitU_iff (c : Nat) (d : Nat) : fitU (c : Int) d = true ↔ c < 2 ^ d := by
  unfold fitU
  rw [decide_eq_true_eq]
  have : ((2 : Int) ^ d) = ((2 ^ d : Nat) : Int) := by simp
  rw [this]
  omega

theorem more_small (acc lo : Nat) (c : Int) (u : Nat) (hc : c % 128 = (u : Int)) (h : u * 2 ^ lo < 18446744073709551616) : more acc lo c = acc + u * 2 ^ lo := by
  unfold more
  rw [hc, Int.toNat_natCast, Nat.mod_eq_of_lt h]

theorem rdU_back (k : Nat) (hk : k ≤ 64) (tail : List Int) : ∀ (n u lo acc : Nat), u ≤ n → lo < k → lo % 7 = 0 → acc < 2 ^ lo →
    rdl fitU k (uB u ++ tail) lo acc = if u < 2 ^ (k - lo) then .ok (acc + u * 2 ^ lo) (lo + 7 * lenU u) else .form := by
  intro n
  induction n with
  | zero =>
    intro u lo acc hu hlo hm ha
    obtain rfl : u = 0 := by omega
    rw [uB_small (by omega), lenU_small (by omega), if_pos (Nat.pow_pos (by omega))]
    rw [List.singleton_append, rdl_ok (fun _ => (fitU_iff 0 _).2 (Nat.pow_pos (by omega))) (by omega), more_small acc lo _ 0 (by rfl) (by simp)]
  | succ n ih =>
    intro u lo acc hu hlo hm ha
    have hp := pow_split lo 64 (by omega)
    have hpk := pow_split lo k (by omega)
    have h64 : (2 : Nat) ^ k ≤ 2 ^ 64 := Nat.pow_le_pow_right (by omega) hk
    have hpos : 0 < (2 : Nat) ^ lo := Nat.pow_pos (by omega)
    by_cases hs : u < 128
    · rw [uB_small hs, lenU_small hs, List.singleton_append]
      by_cases hf : u < 2 ^ (k - lo)
      · have hmul : u * 2 ^ lo < 2 ^ k := by rw [hpk, Nat.mul_comm]; exact Nat.mul_lt_mul_of_pos_left hf hpos
        rw [if_pos hf, rdl_ok (fun _ => (fitU_iff u _).2 hf) (by omega), more_small acc lo _ u (by omega) (by omega)]
      · rw [if_neg hf]
        have h7 : k ≤ lo + 7 := by
          rcases Nat.lt_or_ge (lo + 7) k with h | h
          · exfalso
            have : (2 : Nat) ^ 7 ≤ 2 ^ (k - lo) := Nat.pow_le_pow_right (by omega) (by omega)
            omega
          · exact h
        refine rdl_form h7 (.inr ?_)
        rw [Bool.eq_false_iff]
        intro h
        exact hf ((fitU_iff u _).1 h)
    · rw [uB_great (by omega), lenU_great (by omega), List.cons_append]
      by_cases h7 : k ≤ lo + 7
      · have : (2 : Nat) ^ (k - lo) ≤ 2 ^ 7 := Nat.pow_le_pow_right (by omega) (by omega)
        rw [if_neg (by omega)]
        exact rdl_form h7 (.inl (by omega))
      · have hq : (2 : Nat) ^ (k - lo) = 128 * 2 ^ (k - (lo + 7)) := by
          rw [show k - lo = 7 + (k - (lo + 7)) from by omega, Nat.pow_add]
        have hl7 : (2 : Nat) ^ (lo + 7) = 2 ^ lo * 128 := by rw [Nat.pow_add]
        have h63 : (2 : Nat) ^ (lo + 7) ≤ 2 ^ 63 := Nat.pow_le_pow_right (by omega) (by omega)
        have hmul : (u % 128) * 2 ^ lo ≤ 127 * 2 ^ lo := Nat.mul_le_mul_right _ (by omega)
        rw [rdl, if_neg (by omega), if_neg (by omega), more_small acc lo _ (u % 128) (by omega) (by omega)]
        rw [ih (u / 128) (lo + 7) _ (by omega) (by omega) (by omega) (by rw [hl7]; omega)]
        have hsum : acc + u % 128 * 2 ^ lo + u / 128 * 2 ^ (lo + 7) = acc + u * 2 ^ lo := by
          rw [hl7]
          have : u * 2 ^ lo = (u % 128) * 2 ^ lo + (u / 128) * (2 ^ lo * 128) := by
            have e : u = u % 128 + u / 128 * 128 := by omega
            rw [show (u / 128) * (2 ^ lo * 128) = (u / 128 * 128) * 2 ^ lo from by rw [Nat.mul_assoc, Nat.mul_comm 128]]
            rw [← Nat.add_mul]
            rw [← e]
          omega
        rw [hsum]
        by_cases hf : u < 2 ^ (k - lo)
        · rw [if_pos hf, if_pos (by omega)]
          congr 1
          omega
        · rw [if_neg hf, if_neg (by omega)]

/-- How many numbers so many digits tell apart, in 64 at most. -/
def wide (m : Nat) : Int := if m ≤ 63 then 2 ^ m else 18446744073709551616

theorem fitS_iff (s : Int) (d : Nat) (h1 : -64 ≤ s) (h2 : s ≤ 63) (hd : 1 ≤ d) (hd7 : d ≤ 7) : fitS (s % 128) d = true ↔ -2 ^ (d - 1) ≤ s ∧ s < 2 ^ (d - 1) := by
  refine seven (Q := fun d => fitS (s % 128) d = true ↔ -2 ^ (d - 1) ≤ s ∧ s < 2 ^ (d - 1)) ?_ ?_ ?_ ?_ ?_ ?_ ?_ d hd hd7 <;>
  · simp only [fitS, Bool.or_eq_true, decide_eq_true_eq]
    omega

theorem baseS (acc : Nat) (s : Int) (h1 : -64 ≤ s) (h2 : s ≤ 63) (lo : Nat) (hlo : lo ≤ 63) (hm : lo % 7 = 0) (ha : acc < 2 ^ lo) : (more acc lo (s % 128) : Int) = ((acc : Int) + s * 2 ^ lo) % wide (lo + 7) := by
  revert ha
  refine ten_of (Q := fun lo => acc < 2 ^ lo → (more acc lo (s % 128) : Int) = ((acc : Int) + s * 2 ^ lo) % wide (lo + 7)) ?_ ?_ ?_ ?_ ?_ ?_ ?_ ?_ ?_ ?_ lo hlo hm <;>
  · intro ha
    simp only [more, wide, Nat.reduceAdd, Nat.reduceLeDiff, ↓reduceIte] at ha ⊢
    omega

theorem stepS (acc : Nat) (s : Int) (lo : Nat) (hlo : lo ≤ 56) (hm : lo % 7 = 0) (ha : acc < 2 ^ lo) : more acc lo (s % 128 + 128) < 2 ^ (lo + 7) ∧ (more acc lo (s % 128 + 128) : Int) + s / 128 * 2 ^ (lo + 7) = (acc : Int) + s * 2 ^ lo := by
  revert ha
  refine ten_of (Q := fun lo => lo ≤ 56 → acc < 2 ^ lo → more acc lo (s % 128 + 128) < 2 ^ (lo + 7) ∧ (more acc lo (s % 128 + 128) : Int) + s / 128 * 2 ^ (lo + 7) = (acc : Int) + s * 2 ^ lo) ?_ ?_ ?_ ?_ ?_ ?_ ?_ ?_ ?_ ?_ lo (by omega) hm hlo <;>
  · intro h56 ha
    first
      | (simp only [more] at ha ⊢; omega)
      | omega

theorem powI (d : Nat) (hd : 7 ≤ d) : (64 : Int) ≤ 2 ^ (d - 1) := by
  have h : (2 : Nat) ^ 6 ≤ 2 ^ (d - 1) := Nat.pow_le_pow_right (by omega) (by omega)
  have e : ((2 : Int) ^ (d - 1)) = ((2 ^ (d - 1) : Nat) : Int) := by simp
  rw [e]
  omega

theorem powI_le (d : Nat) (hd7 : d ≤ 7) : (2 : Int) ^ (d - 1) ≤ 64 := by
  have h : (2 : Nat) ^ (d - 1) ≤ 2 ^ 6 := Nat.pow_le_pow_right (by omega) (by omega)
  have e : ((2 : Int) ^ (d - 1)) = ((2 ^ (d - 1) : Nat) : Int) := by simp
  rw [e]
  omega

theorem rdS_back (k : Nat) (hk : k ≤ 64) (tail : List Int) : ∀ (n : Nat) (s : Int) (lo acc : Nat), s.natAbs ≤ n → lo < k → lo % 7 = 0 → acc < 2 ^ lo →
    if -2 ^ (k - lo - 1) ≤ s ∧ s < 2 ^ (k - lo - 1) then ∃ V : Nat, rdl fitS k (sB s ++ tail) lo acc = .ok V (lo + 7 * lenS s) ∧ (V : Int) = ((acc : Int) + s * 2 ^ lo) % wide (lo + 7 * lenS s)
    else rdl fitS k (sB s ++ tail) lo acc = .form := by
  intro n
  induction n with
  | zero =>
    intro s lo acc hs hlo hm ha
    obtain rfl : s = 0 := by omega
    have hp : (0 : Int) < 2 ^ (k - lo - 1) := Int.pow_pos (by omega)
    rw [if_pos (by omega)]
    refine ⟨more acc lo (0 % 128), ?_, ?_⟩
    · rw [sB_small (by omega), lenS_small (by omega), List.singleton_append]
      refine rdl_ok (fun h7 => (fitS_iff 0 _ (by omega) (by omega) (by omega) (by omega)).2 ?_) (by omega)
      omega
    · rw [lenS_small (by omega)]
      exact baseS acc 0 (by omega) (by omega) lo (by omega) hm ha
  | succ n ih =>
    intro s lo acc hs hlo hm ha
    by_cases hsm : -64 ≤ s ∧ s ≤ 63
    · rw [sB_small hsm, lenS_small hsm, List.singleton_append]
      by_cases hf : -2 ^ (k - lo - 1) ≤ s ∧ s < 2 ^ (k - lo - 1)
      · rw [if_pos hf]
        exact ⟨more acc lo (s % 128), rdl_ok (fun h7 => (fitS_iff s _ hsm.1 hsm.2 (by omega) (by omega)).2 hf) (by omega), baseS acc s hsm.1 hsm.2 lo (by omega) hm ha⟩
      · rw [if_neg hf]
        have h7 : k ≤ lo + 7 := by
          rcases Nat.lt_or_ge (lo + 7) k with h | h
          · have := powI (k - lo) (by omega)
            omega
          · exact h
        refine rdl_form h7 (.inr ?_)
        rw [Bool.eq_false_iff]
        intro h
        exact hf ((fitS_iff s _ hsm.1 hsm.2 (by omega) (by omega)).1 h)
    · rw [sB_great hsm, lenS_great hsm, List.cons_append]
      by_cases h7 : k ≤ lo + 7
      · have := powI_le (k - lo) (by omega)
        rw [if_neg (by omega)]
        exact rdl_form h7 (.inl (by omega))
      · obtain ⟨g1, g2⟩ := stepS acc s lo (by omega) hm ha
        have hr : rdl fitS k ((s % 128 + 128) :: (sB (s / 128) ++ tail)) lo acc = rdl fitS k (sB (s / 128) ++ tail) (lo + 7) (more acc lo (s % 128 + 128)) := by
          rw [rdl, if_neg (by omega), if_neg (by omega)]
        have := ih (s / 128) (lo + 7) (more acc lo (s % 128 + 128)) (by omega) (by omega) (by omega) g1
        rw [g2, show lo + 7 + 7 * lenS (s / 128) = lo + 7 * (lenS (s / 128) + 1) from by omega] at this
        rw [hr]
        have hq : (2 : Int) ^ (k - lo - 1) = 128 * 2 ^ (k - (lo + 7) - 1) := by
          rw [show k - lo - 1 = 7 + (k - (lo + 7) - 1) from by omega, Int.pow_add]
          rfl
        by_cases hf : -2 ^ (k - lo - 1) ≤ s ∧ s < 2 ^ (k - lo - 1)
        · rw [if_pos hf]
          rw [if_pos (by omega)] at this
          exact this
        · rw [if_neg hf]
          rw [if_neg (by omega)] at this
          exact this

theorem lenS_range : ∀ (n : Nat) (s : Int), s.natAbs ≤ n → -(64 * 128 ^ (lenS s - 1)) ≤ s ∧ s < 64 * 128 ^ (lenS s - 1)
  | 0, s, h => by
    rw [lenS_small (by omega)]
    simp
    omega
  | n + 1, s, h => by
    by_cases hs : -64 ≤ s ∧ s ≤ 63
    · rw [lenS_small hs]
      simp
      omega
    · have ih := lenS_range n (s / 128) (by omega)
      have hp := lenS_pos (s / 128)
      rw [lenS_great hs, show lenS (s / 128) + 1 - 1 = (lenS (s / 128) - 1) + 1 from by omega, Int.pow_succ]
      omega

theorem ext_back (s : Int) (V : Nat) (h1 : -9223372036854775808 ≤ s) (h2 : s ≤ 9223372036854775807) (hV : (V : Int) = s % wide (7 * lenS s)) : ext V (7 * lenS s) = s := by
  have hr := lenS_range _ s (Nat.le_refl _)
  have ht := lenS_ten h1 h2
  have hp := lenS_pos s
  generalize lenS s = n at hr ht hp hV ⊢
  have : n = 1 ∨ n = 2 ∨ n = 3 ∨ n = 4 ∨ n = 5 ∨ n = 6 ∨ n = 7 ∨ n = 8 ∨ n = 9 ∨ n = 10 := by omega
  rcases this with rfl | rfl | rfl | rfl | rfl | rfl | rfl | rfl | rfl | rfl <;>
  · simp only [ext, wide, IntKind.wrap_u64, wrap64, Nat.reduceMul, Nat.reduceLeDiff, Nat.reduceSub, ↓reduceIte] at hV ⊢
    simp only [Nat.reduceSub] at hr
    omega

/-- A greater width reads the same. -/
theorem rdl_wider {fit : Int → Nat → Bool} {k k' : Nat} (hk : k ≤ k') (hf : ∀ c lo, 0 ≤ c → c < 128 → k ≤ lo + 7 → k' ≤ lo + 7 → lo < k → fit c (k - lo) = true → fit c (k' - lo) = true) : ∀ (l : List Int) (lo acc v m : Nat), (∀ x ∈ l, 0 ≤ x) → lo < k → rdl fit k l lo acc = .ok v m → rdl fit k' l lo acc = .ok v m
  | [], _, _, _, _, _, _, h => by cases h
  | c :: r, lo, acc, v, m, hl, h0, h => by
    rw [rdl] at h ⊢
    by_cases hc : k ≤ lo + 7 ∧ (128 ≤ c ∨ fit c (k - lo) = false)
    · rw [if_pos hc] at h
      cases h
    · rw [if_neg hc] at h
      have hc0 := hl c (by simp)
      by_cases hs : c < 128
      · rw [if_pos hs] at h
        rw [if_neg, if_pos hs]
        · exact h
        · rintro ⟨g1, g2 | g2⟩
          · omega
          · have g3 : fit c (k - lo) = true := by
              cases hq : fit c (k - lo)
              · exact absurd ⟨by omega, .inr hq⟩ hc
              · rfl
            rw [hf c lo hc0 hs (by omega) g1 h0 g3] at g2
            cases g2
      · rw [if_neg hs] at h
        have h7 : lo + 7 < k := by omega
        rw [if_neg (by omega), if_neg hs]
        exact rdl_wider hk hf r (lo + 7) _ v m (fun x hx => hl x (by simp [hx])) h7 h

end Go.Proofs.Ytnminpbnlcgblaa.Leb
