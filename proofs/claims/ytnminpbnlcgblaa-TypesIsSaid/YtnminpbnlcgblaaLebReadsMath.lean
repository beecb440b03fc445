/- Plain facts: what the program's reader and the document's say of any bytes is the same. -/
import Derived.Test.YtnminpbnlcgblaaLebRefS
import Derived.Test.YtnminpbnlcgblaaLebBackMath
namespace Go.Proofs.Ytnminpbnlcgblaa.Leb
open Go.RowKit

theorem bval_append : ∀ (a b : List Int), bval (a ++ b) = bval a + 2 ^ a.length * bval b
  | [], b => by simp [bval]
  | x :: a, b => by
    simp only [List.cons_append, bval, bval_append a b, List.length_cons, Int.pow_succ]
    rw [Int.mul_add, ← Int.mul_assoc, Int.mul_comm 2 (2 ^ a.length)]
    omega
theorem bval_b7 (c : Int) (h0 : 0 ≤ c) (h1 : c < 128) : bval (b7 c) = c := by
  simp only [b7, bval]
  omega
theorem bval_b7_any (c : Int) : bval (b7 c) = c % 128 := by
  simp only [b7, bval]
  omega
theorem bval_range : ∀ (l : List Int), (∀ x ∈ l, x = 0 ∨ x = 1) → 0 ≤ bval l ∧ bval l < 2 ^ l.length
  | [], _ => by simp [bval]
  | x :: l, h => by
    have := bval_range l fun y hy => h y (by simp [hy])
    have hx := h x (by simp)
    simp only [bval, List.length_cons, Int.pow_succ]
    omega

theorem getD_app (a b : List Int) (t : Nat) : (a ++ b).getD t 0 = if t < a.length then a.getD t 0 else b.getD (t - a.length) 0 := by
  simp only [List.getD_eq_getElem?_getD]
  split
  · rename_i h
    rw [List.getElem?_append_left h]
  · rename_i h
    rw [List.getElem?_append_right (by omega)]

/-- In the byte that is the last one: its digits from d on are all 0 just if it is less. -/
theorem b7_hiU (c : Int) (h0 : 0 ≤ c) (h1 : c < 128) (d : Nat) (hd : 1 ≤ d) (hd7 : d ≤ 7) : fitU c d = true ↔ ∀ i, d ≤ i → (b7 c).getD i 0 = 0 := by
  have hall : ∀ i, 7 ≤ i → (b7 c).getD i 0 = 0 := fun i hi => by
    rw [List.getD_eq_getElem?_getD, List.getElem?_eq_none (by simp [b7]; omega)]
    rfl
  have key : (∀ i, d ≤ i → (b7 c).getD i 0 = 0) ↔ ∀ i, d ≤ i → i < 7 → (b7 c).getD i 0 = 0 :=
    ⟨fun h i hi _ => h i hi, fun h i hi => by
      rcases Nat.lt_or_ge i 7 with g | g
      · exact h i hi g
      · exact hall i g⟩
  rw [key]
  refine seven (Q := fun d => fitU c d = true ↔ ∀ i, d ≤ i → i < 7 → (b7 c).getD i 0 = 0) ?_ ?_ ?_ ?_ ?_ ?_ ?_ d hd hd7 <;>
  · rw [fitU, decide_eq_true_eq]
    constructor
    · intro h i hi h7
      have : i = 0 ∨ i = 1 ∨ i = 2 ∨ i = 3 ∨ i = 4 ∨ i = 5 ∨ i = 6 := by omega
      rcases this with rfl | rfl | rfl | rfl | rfl | rfl | rfl <;> first | omega | (simp only [b7, List.getD_cons_succ, List.getD_cons_zero]; omega)
    · intro h
      have g1 := h 1
      have g2 := h 2
      have g3 := h 3
      have g4 := h 4
      have g5 := h 5
      have g6 := h 6
      simp only [b7, List.getD_cons_succ, List.getD_cons_zero] at g1 g2 g3 g4 g5 g6
      omega
theorem b7_allS : ∀ (c : Fin 128) (d : Fin 8), 1 ≤ d.val → fitS (c.val : Int) d.val = (List.range 7).all fun i => decide (i < d.val) || (b7 (c.val : Int)).getD i 0 == (b7 (c.val : Int)).getD (d.val - 1) 0 := by decide +kernel
theorem b7_hiS (c : Int) (h0 : 0 ≤ c) (h1 : c < 128) (d : Nat) (hd : 1 ≤ d) (hd7 : d ≤ 7) : fitS c d = true ↔ ∀ i, d ≤ i → i < 7 → (b7 c).getD i 0 = (b7 c).getD (d - 1) 0 := by
  obtain ⟨n, rfl⟩ := Int.eq_ofNat_of_zero_le h0
  have := b7_allS ⟨n, by omega⟩ ⟨d, by omega⟩ hd
  simp only at this
  rw [this, List.all_eq_true]
  constructor
  · intro h i hi h7
    have := h i (List.mem_range.2 h7)
    simp only [Bool.or_eq_true, decide_eq_true_eq, beq_iff_eq] at this
    omega
  · intro h i hi
    simp only [Bool.or_eq_true, decide_eq_true_eq, beq_iff_eq]
    rcases Nat.lt_or_ge i d with g | g
    · exact .inl g
    · exact .inr (h i g (List.mem_range.1 hi))

theorem more_eq (acc : Nat) (c : Int) (lo : Nat) (hlo : lo ≤ 63) (hm : lo % 7 = 0) (ha : acc < 2 ^ lo) : (more acc lo c : Int) = ((acc : Int) + 2 ^ lo * (c % 128)) % 18446744073709551616 := by
  revert ha
  refine ten_of (Q := fun lo => acc < 2 ^ lo → (more acc lo c : Int) = ((acc : Int) + 2 ^ lo * (c % 128)) % 18446744073709551616) ?_ ?_ ?_ ?_ ?_ ?_ ?_ ?_ ?_ ?_ lo hlo hm <;>
  · intro ha
    simp only [more] at ha ⊢
    omega
theorem more_step (acc : Nat) (c : Int) (lo : Nat) (hlo : lo ≤ 56) (hm : lo % 7 = 0) (ha : acc < 2 ^ lo) : (more acc lo c : Int) = (acc : Int) + 2 ^ lo * (c % 128) := by
  revert ha
  refine ten_of (Q := fun lo => lo ≤ 56 → acc < 2 ^ lo → (more acc lo c : Int) = (acc : Int) + 2 ^ lo * (c % 128)) ?_ ?_ ?_ ?_ ?_ ?_ ?_ ?_ ?_ ?_ lo (by omega) hm hlo <;>
  · intro h56 ha
    first
      | (simp only [more] at ha ⊢; omega)
      | omega

theorem acc_lt {l : List Int} (h : ∀ x ∈ l, x = 0 ∨ x = 1) : (bval l).toNat < 2 ^ l.length ∧ ((bval l).toNat : Int) = bval l := by
  have := bval_range l h
  have e : ((2 : Int) ^ l.length) = ((2 ^ l.length : Nat) : Int) := by simp
  rw [e] at this
  omega

/-- What both say, digit by digit. -/
def Same (fit : Int → Nat → Bool) (hi : List Int → Prop) (k : Nat) (l : List Int) (lo acc : Nat) : DR → Prop
  | .short => rdl fit k l lo acc = .short
  | .form => rdl fit k l lo acc = .form
  | .ok bl => (hi bl → rdl fit k l lo acc = .ok (vU bl).toNat bl.length) ∧ (¬ hi bl → rdl fit k l lo acc = .form)

theorem same_of {fit : Int → Nat → Bool} {hi : List Int → Prop} {k : Nat} (hk1 : 1 ≤ k) (hk : k ≤ 64)
    (hhi : ∀ (out : List Int) (c : Int), (∀ x ∈ out, x = 0 ∨ x = 1) → 0 ≤ c → c < 128 → out.length < k → k ≤ out.length + 7 → (fit c (k - out.length) = true ↔ hi (out ++ b7 c)))
    (hlo : ∀ (out : List Int) (c : Int), out.length + 7 < k → hi (out ++ b7 c)) :
    ∀ (l : List Int) (n : Nat) (out : List Int), (∀ x ∈ l, 0 ≤ x ∧ x ≤ 255) → 1 ≤ n → n ≤ (k + 6) / 7 → out.length + 7 = 7 * n → (∀ x ∈ out, x = 0 ∨ x = 1) → Same fit hi k l out.length (bval out).toNat (dgl ((k + 6) / 7) l n out)
  | [], _, _, _, _, _, _, _ => rfl
  | c :: r, n, out, hl, h1, h2, h3, h4 => by
    have hc := hl c (by simp)
    obtain ⟨ha, hae⟩ := acc_lt h4
    have hlen : (out ++ b7 c).length = out.length + 7 := by rw [List.length_append]; rfl
    have hd : ∀ x ∈ out ++ b7 c, x = 0 ∨ x = 1 := fun x hx => by
      rcases List.mem_append.1 hx with h | h
      · exact h4 x h
      · exact b7_dig c x h
    have hbv : bval (out ++ b7 c) = ((bval out).toNat : Int) + 2 ^ out.length * (c % 128) := by rw [bval_append, bval_b7_any, hae]
    rw [dgl]
    by_cases hf : n = (k + 6) / 7 ∧ 128 ≤ c
    · rw [if_pos hf]
      exact rdl_form (by omega) (.inl hf.2)
    · rw [if_neg hf]
      by_cases hs : c < 128
      · rw [if_pos hs]
        have hval : (vU (out ++ b7 c)).toNat = more (bval out).toNat out.length c := by
          have := more_eq (bval out).toNat c out.length (by omega) (by omega) ha
          unfold vU
          rw [hbv, ← this]
          exact Int.toNat_natCast _
        by_cases h7 : k ≤ out.length + 7
        · have hiff := hhi out c h4 hc.1 hs (by omega) h7
          refine ⟨fun h => ?_, fun h => ?_⟩
          · rw [hval, hlen]
            exact rdl_ok (fun _ => hiff.2 h) hs
          · refine rdl_form h7 (.inr ?_)
            rw [Bool.eq_false_iff]
            exact fun g => h (hiff.1 g)
        · refine ⟨fun _ => ?_, fun h => absurd (hlo out c (by omega)) h⟩
          rw [hval, hlen]
          exact rdl_ok (fun g => absurd g h7) hs
      · rw [if_neg hs]
        have hn : n + 1 ≤ (k + 6) / 7 := by omega
        have hms := more_step (bval out).toNat c out.length (by omega) (by omega) ha
        have hacc : (bval (out ++ b7 c)).toNat = more (bval out).toNat out.length c := by
          rw [hbv, ← hms]
          exact Int.toNat_natCast _
        have ih := same_of hk1 hk hhi hlo r (n + 1) (out ++ b7 c) (fun x hx => hl x (by simp [hx])) (by omega) hn (by rw [hlen]; omega) hd
        rw [hlen, hacc] at ih
        have hr : rdl fit k (c :: r) out.length (bval out).toNat = rdl fit k r (out.length + 7) (more (bval out).toNat out.length c) := by
          rw [rdl, if_neg (by omega), if_neg hs]
        cases hq : dgl ((k + 6) / 7) r (n + 1) (out ++ b7 c) with
        | short => rw [hq] at ih; exact hr.trans ih
        | form => rw [hq] at ih; exact hr.trans ih
        | ok bl => rw [hq] at ih; exact ⟨fun h => hr.trans (ih.1 h), fun h => hr.trans (ih.2 h)⟩

theorem same_U {k : Nat} (hk1 : 1 ≤ k) (hk : k ≤ 64) (l : List Int) (hl : ∀ x ∈ l, 0 ≤ x ∧ x ≤ 255) : Same fitU (hiU k) k l 0 0 (dgl ((k + 6) / 7) l 1 []) := by
  refine same_of hk1 hk (fun out c _ h0 h1 h2 h3 => ?_) (fun out c h => ?_) l 1 [] hl (by omega) (by omega) rfl (by simp)
  · rw [b7_hiU c h0 h1 _ (by omega) (by omega)]
    constructor
    · intro h t ht
      rw [getD_app, if_neg (by omega)]
      exact h _ (by omega)
    · intro h i hi
      have := h (i + out.length) (by omega)
      rw [getD_app, if_neg (by omega), Nat.add_sub_cancel] at this
      exact this
  · intro t ht
    rw [List.getD_eq_getElem?_getD, List.getElem?_eq_none (by rw [List.length_append]; simp [b7]; omega)]
    rfl

theorem same_S {k : Nat} (hk1 : 1 ≤ k) (hk : k ≤ 64) (l : List Int) (hl : ∀ x ∈ l, 0 ≤ x ∧ x ≤ 255) : Same fitS (hiS k) k l 0 0 (dgl ((k + 6) / 7) l 1 []) := by
  refine same_of hk1 hk (fun out c _ h0 h1 h2 h3 => ?_) (fun out c h => ?_) l 1 [] hl (by omega) (by omega) rfl (by simp)
  · have hlen : (out ++ b7 c).length = out.length + 7 := by rw [List.length_append]; rfl
    rw [b7_hiS c h0 h1 _ (by omega) (by omega)]
    constructor
    · intro h t ht htl
      rw [getD_app, if_neg (by omega), getD_app, if_neg (by omega)]
      rw [show k - 1 - out.length = k - out.length - 1 from by omega]
      exact h _ (by omega) (by omega)
    · intro h i hi h7
      have := h (i + out.length) (by omega) (by omega)
      rw [getD_app, if_neg (by omega), getD_app, if_neg (by omega), Nat.add_sub_cancel, show k - 1 - out.length = k - out.length - 1 from by omega] at this
      exact this
  · intro t ht htl
    have hlen : (out ++ b7 c).length = out.length + 7 := by rw [List.length_append]; rfl
    omega

theorem vSr_eq (s : Int) (hs : s = 0 ∨ s = -1) : ∀ (l : List Int), vSr s l = wrap64 (bval l + s * 2 ^ l.length)
  | [] => by
    rcases hs with rfl | rfl <;> simp [vSr, bval, wrap64]
  | b :: r => by
    rw [vSr, vSr_eq s hs r, bval, List.length_cons, Int.pow_succ]
    have e : s * (2 ^ r.length * 2) = 2 * (s * 2 ^ r.length) := by rw [← Int.mul_assoc, Int.mul_comm]
    rw [e]
    unfold wrap64
    omega

theorem vS_ext (l : List Int) (h : ∀ x ∈ l, x = 0 ∨ x = 1) (h7 : 7 ≤ l.length) (h70 : l.length ≤ 70) (hm : l.length % 7 = 0) : vS l = ext (vU l).toNat l.length := by
  unfold vS
  have hs : topS l = 0 ∨ topS l = -1 := by unfold topS; split <;> simp
  rw [vSr_eq _ hs]
  have hsplit : l = l.take (l.length - 1) ++ [l.getD (l.length - 1) 0] := by
    have hlt : l.length - 1 < l.length := by omega
    have e1 : l.getD (l.length - 1) 0 = l[l.length - 1] := by simp [List.getD_eq_getElem?_getD, hlt]
    rw [e1, ← List.take_succ_eq_append_getElem hlt, show l.length - 1 + 1 = l.length from by omega, List.take_length]
  have hP := bval_range (l.take (l.length - 1)) fun x hx => h x (List.mem_of_mem_take hx)
  have hlP : (l.take (l.length - 1)).length = l.length - 1 := by rw [List.length_take]; omega
  have hB : bval l = bval (l.take (l.length - 1)) + 2 ^ (l.length - 1) * l.getD (l.length - 1) 0 := by
    conv => lhs; rw [hsplit]
    rw [bval_append, hlP]
    simp [bval]
  rw [hlP] at hP
  have hx : l.getD (l.length - 1) 0 = 0 ∨ l.getD (l.length - 1) 0 = 1 := by
    have hlt : l.length - 1 < l.length := by omega
    have := h l[l.length - 1] (List.getElem_mem hlt)
    simpa [List.getD_eq_getElem?_getD, hlt] using this
  have hv : ((vU l).toNat : Int) = bval l % 18446744073709551616 := by
    have := vU_bounds l
    unfold vU at *
    omega
  unfold topS
  generalize l.getD (l.length - 1) 0 = x at hB hx ⊢
  generalize bval (l.take (l.length - 1)) = Pv at hP hB
  generalize bval l = B at hB hv ⊢
  generalize (vU l).toNat = V at hv ⊢
  generalize l.length = n at *
  clear hsplit hlP h hs
  have hn : n = 7 ∨ n = 14 ∨ n = 21 ∨ n = 28 ∨ n = 35 ∨ n = 42 ∨ n = 49 ∨ n = 56 ∨ n = 63 ∨ n = 70 := by omega
  rcases hx with rfl | rfl <;> rcases hn with rfl | rfl | rfl | rfl | rfl | rfl | rfl | rfl | rfl | rfl <;>
  · simp only [ext, IntKind.wrap_u64, wrap64, Nat.reduceLeDiff, Nat.reduceSub, ↓reduceIte, Int.reduceNeg, Int.reduceEq] at hP hB ⊢
    omega

end Go.Proofs.Ytnminpbnlcgblaa.Leb
